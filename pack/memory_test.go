package pack_test

import (
	"fmt"
	"math/rand/v2"
	"slices"
	"testing"

	"fascicle/api"
	"fascicle/pack"
)

// task is a config and frames.
type task struct {
	c     api.Config
	sizes []int
}

// tasks are some that are packed, and some that aren't.
func tasks() []task {
	r := rand.New(rand.NewPCG(14, 6))
	return []task{
		{config(12, 1), nil},
		{config(12, 1), []int{}},
		{config(12, 1), []int{1}},
		{config(12, 2), []int{3000, 3000}},
		{config(12, 3), []int{3000, 3000, 3000}},
		{config(12, 3), sizes(r, 40, 200)},
		{config(12, 1000), sizes(r, 200, 2000)},
		{config(24, 65536), sizes(r, 100, 1<<20)},
		{config(12, 1), []int{3000, 3000}},
		{config(12, 1), []int{3000, 5000}},
		{config(12, 1), []int{0}},
		{config(12, 1), []int{greatest, 1}},
		{config(11, 1), []int{1, 2}},
		{config(12, 0), []int{5000}},
	}
}

// told is all that is answered of a task, as a text.
func told(x task) string {
	numbers, e := pack.Plan(x.c, x.sizes)
	text := fmt.Sprintln(numbers, e)
	r, e := pack.Empty(x.c, 0)
	text += fmt.Sprintln(r, e)
	for _, size := range x.sizes {
		large, fits, left := pack.TooLarge(x.c, size), r.Fits(size), r.Left()
		if next, e := r.Take(size); e == api.OK {
			r = next
		}
		text += fmt.Sprintln(large, fits, left, r)
	}
	return text
}

// R4: sizes that are handed in aren't changed, their spare room neither, and the spare room doesn't count.
func TestSizesAreNotChanged(t *testing.T) {
	for _, x := range tasks() {
		want := told(task{x.c, slices.Clip(slices.Clone(x.sizes))})
		room := append(slices.Clone(x.sizes), 1, 0, greatest, 3000)
		was := slices.Clone(room)
		if told(task{x.c, room[:len(x.sizes)]}) != want {
			t.Errorf("with others behind it something else is told of %v, %v", x.c, begin(x.sizes))
		}
		if !slices.Equal(room, was) {
			t.Errorf("%v was changed to %v", begin(was), begin(room))
		}
	}
}

// R4: what was answered doesn't change when the sizes do, which aren't kept.
func TestSizesAreNotKept(t *testing.T) {
	for _, x := range tasks() {
		given := slices.Clone(x.sizes)
		numbers, _ := pack.Plan(x.c, given)
		for i := range given {
			given[i] = 1
		}
		if want, _ := newModel().plan(x.c, x.sizes); !slices.Equal(numbers, want) {
			t.Errorf("behind a change of %v, %v its numbers are %v", x.c, begin(x.sizes), begin(numbers))
		}
		want, wantE := newModel().plan(x.c, given)
		expectPlan(t, x.c, given, want, wantE)
	}
}

// R4: an answer that is changed, or to which something is appended, changes neither what was handed in nor another answer.
func TestAnswersAreNewMemory(t *testing.T) {
	for _, x := range tasks() {
		given := slices.Clone(x.sizes)
		want, wantE := newModel().plan(x.c, x.sizes)
		first, _ := pack.Plan(x.c, given)
		second, _ := pack.Plan(x.c, given)
		_ = append(first, 7, 8, 9)
		first = first[:cap(first)]
		for i := range first {
			first[i] ^= 85
		}
		if !slices.Equal(second, want) || !slices.Equal(given, x.sizes) {
			t.Errorf("a change of the numbers of %v, %v changed it, or other numbers", x.c, begin(x.sizes))
		}
		expectPlan(t, x.c, given, want, wantE)
	}
}

// R5: rooms are values: what is taken into one doesn't change another one, and both can be compared.
func TestRoomsAreValues(t *testing.T) {
	r := empty(t, config(12, 2), 1)
	was := r
	a, b := take(t, r, 100), take(t, r, 200)
	c := take(t, a, 100)
	if r != was || r != empty(t, config(12, 2), 1) {
		t.Errorf("what was taken changed the room: %v, %v", was, r)
	}
	if a != (pack.Room{Config: config(12, 2), Number: 1, Used: was.Used + 100, Count: 1}) || a == b || a == c || a != take(t, r, 100) {
		t.Errorf("the rooms behind it: %v, %v, %v", a, b, c)
	}
}

// R4: nil and empty lists are the same.
func TestNilAndEmptyAreTheSame(t *testing.T) {
	for _, c := range append(right(), wrong()...) {
		a, aE := pack.Plan(c, nil)
		b, bE := pack.Plan(c, []int{})
		if len(a) != 0 || len(b) != 0 || aE != bE {
			t.Errorf("Plan of %v, nothing: %v, %d, and %v, %d", c, a, aE, b, bE)
		}
	}
}

// R3: beside an error there are no numbers.
func TestNoNumbersBesideAnError(t *testing.T) {
	for _, x := range tasks() {
		if numbers, e := pack.Plan(x.c, x.sizes); e != api.OK && len(numbers) != 0 {
			t.Errorf("Plan of %v, %v: %v beside %d", x.c, begin(x.sizes), begin(numbers), e)
		}
	}
}

// R5: what is answered hangs on the arguments alone: between other calls it is the same.
func TestCallsTellTheSameAgain(t *testing.T) {
	l := tasks()
	var first []string
	for _, x := range l {
		first = append(first, told(x))
	}
	for i := len(l) - 1; i >= 0; i-- {
		if told(l[i]) != first[i] {
			t.Errorf("of %v, %v something else is told the second time", l[i].c, begin(l[i].sizes))
		}
	}
}
