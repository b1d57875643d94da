package fold_test

import (
	"slices"
	"testing"

	"fascicle/api"
	"fascicle/fold"
)

// spoilt is what stands in a list that was changed.
func spoilt() api.Record {
	return api.Record{Delete: true, Seq: 85, Key: "spoilt", Value: "spoilt"}
}

// spoil changes all that an answer's lists have, up to the end of their room.
func spoil(x answers) {
	for _, l := range [][]api.Record{x.live, x.compact, x.sorted} {
		spoilRecords(l)
	}
	for i := range x.keys[:cap(x.keys)] {
		x.keys[:cap(x.keys)][i] = "spoilt"
	}
}

// spoilRecords changes all that a list has, up to the end of its room.
func spoilRecords(l []api.Record) {
	for i := range l[:cap(l)] {
		l[:cap(l)][i] = spoilt()
	}
}

// grow appends to all lists of an answer.
func grow(x answers) {
	for n := range 5 {
		more := slices.Repeat([]api.Record{spoilt()}, n)
		_ = append(x.live, more...)
		_ = append(x.compact, more...)
		_ = append(x.sorted, more...)
		_ = append(x.keys, slices.Repeat([]string{"spoilt"}, n)...)
	}
}

// P18.3, R4: a row that is handed in isn't changed, its spare room neither, and the spare room doesn't count.
func TestRowsAreNotChanged(t *testing.T) {
	keys := append(wellKnown(), "spare")
	for _, l := range append(rows(), dice(4, 50)) {
		for _, behind := range [][]api.Record{{{}}, {gone(0, "a")}, {put(0, "spare", "spare"), put(1<<64-1, "", "")}, example(), many(20)} {
			room := slices.Concat(l, behind)
			mine := room[:len(l)]
			expectAnswers(t, "with others behind them", ask(mine, keys), modelOf(l, keys))
			if !fold.Same(mine, l) || !fold.Same(l, mine) || fold.Same(mine, room) != modelSame(l, room) {
				t.Errorf("%s aren't the same as they are", tell(l))
			}
			expectRecords(t, "what was handed in, and what stands behind it", room, slices.Concat(l, behind))
		}
	}
}

// P18.3, R4: what was answered doesn't change when the row does; what is asked then is told anew.
func TestRowsAreNotKept(t *testing.T) {
	keys := append(wellKnown(), "spoilt")
	for _, l := range append(rows(), dice(5, 50)) {
		mine := append(make([]api.Record, 0, len(l)+3), l...)
		want := modelOf(l, keys)
		first := ask(mine, keys)
		for i := range mine {
			mine[i].Seq, mine[i].Key, mine[i].Delete = mine[i].Seq^85, mine[i].Key+"z", !mine[i].Delete
		}
		expectAnswers(t, "behind a change of the row", first, want)
		expectAnswers(t, "asked anew", ask(mine, keys), modelOf(mine, keys))
		spoilRecords(mine)
		expectAnswers(t, "behind another change", first, want)
		_ = append(mine, spoilt(), spoilt())
		expectAnswers(t, "behind what was appended to the row", first, want)
		copy(mine, l)
		expectAnswers(t, "asked as at first", ask(mine, keys), want)
	}
}

// P18.3, R4: an answer that is changed, up to the end of its room, or that something is appended to, changes neither the row, nor another answer, nor what is told later.
func TestAnswersAreNewMemory(t *testing.T) {
	keys := wellKnown()
	for _, l := range append(rows(), dice(6, 50)) {
		mine := append(make([]api.Record, 0, len(l)+3), l...)
		want := modelOf(l, keys)
		first, second := ask(mine, keys), ask(mine, keys)
		grow(first)
		expectAnswers(t, "what was appended to", first, want)
		expectAnswers(t, "behind what was appended to another one", second, want)
		spoil(first)
		expectAnswers(t, "behind a change of another one", second, want)
		expectRecords(t, "the row behind a change of an answer", mine, l)
		for _, r := range mine[:cap(mine)][len(mine):] {
			if r != (api.Record{}) {
				t.Errorf("%v stands in the row's spare room", r)
			}
		}
		expectAnswers(t, "asked again", ask(mine, keys), want)
	}
}

// P18.3, R4: the answers about one row share nothing with one another.
func TestListsOfOneRowShareNothing(t *testing.T) {
	for _, l := range append(rows(), dice(7, 50)) {
		want := modelOf(l, nil)
		for i := range 3 {
			x := ask(l, nil)
			lists := []*[]api.Record{&x.live, &x.compact, &x.sorted}
			spoilRecords(*lists[i])
			*lists[i] = [][]api.Record{want.live, want.compact, want.sorted}[i]
			expectAnswers(t, "behind a change of one list", x, want)
		}
	}
}

// P18.3, R4: a list that an answer was, handed in again, is neither changed nor shared.
func TestAnswersHandedInAgain(t *testing.T) {
	for _, l := range append(rows(), dice(8, 50)) {
		for _, again := range []func([]api.Record) []api.Record{fold.Live, fold.Compact, fold.Sorted} {
			list := again(l)
			want := slices.Clone(list)
			second := again(list)
			expectRecords(t, "handed in again", second, want)
			spoilRecords(second)
			expectRecords(t, "behind a change of what was told of it", list, want)
		}
	}
}

// R4: nil and empty lists are the same, with room behind them or without.
func TestNilAndEmptyAreTheSame(t *testing.T) {
	for _, l := range [][]api.Record{nil, {}, many(5)[:0], many(5)[5:], make([]api.Record, 0, 9)} {
		expectAnswers(t, "of no records", ask(l, wellKnown()), answers{told: make([]told, len(wellKnown()))})
		expectSame(t, l, nil, true)
		expectSame(t, l, []api.Record{}, true)
		expectSame(t, l, example(), false)
	}
}

// R5: what is told hangs on the arguments alone, not on the order of a map: asked again and again it is the same.
func TestCallsTellTheSameAgain(t *testing.T) {
	keys := wellKnown()
	all := append(rows(), dice(9, 200), dice(10, 200))
	var first []answers
	for _, l := range all {
		first = append(first, ask(l, keys))
	}
	for range 20 {
		for i := len(all) - 1; i >= 0; i-- {
			expectAnswers(t, "what was told at first", first[i], ask(all[i], keys))
		}
	}
}
