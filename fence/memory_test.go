package fence_test

import (
	"bytes"
	"fmt"
	"math"
	"slices"
	"testing"

	"fascicle/cursor"
	"fascicle/fence"
	"fascicle/table"
)

// roomy gives a list with others behind it, in its spare room: it, and all.
func roomy[T any](l []T, others ...T) (piece, all []T) {
	all = slices.Concat(l, others)
	return all[:len(l)], all
}

// changeFences makes each fence another one, those in the spare room, too.
func changeFences(fences []uint64) {
	fences = fences[:cap(fences)]
	for i := range fences {
		fences[i] ^= 85
	}
}

// entryRows are rows of entries of several lengths.
func entryRows() [][]table.Entry {
	l := [][]table.Entry{nil, {}}
	for _, rule := range hashRules() {
		for _, n := range []int{1, 15, 16, 17, 40} {
			l = append(l, entries(hashesOf(n, rule)))
		}
	}
	return l
}

// told is all that is answered of fences, as a text.
func told(fences []uint64) string {
	text := fmt.Sprint(put(fences))
	for _, hash := range ends() {
		from, to := fence.Range(fences, 16*len(fences), hash)
		text += fmt.Sprint(" ", from, to)
	}
	return text
}

// P12.3, R4: entries that are handed in aren't changed, their spare room neither, and the spare room doesn't count.
func TestEntriesAreNotChanged(t *testing.T) {
	for _, l := range entryRows() {
		piece, all := roomy(l, entry(0, 0), entry(6, 6), entry(most, math.MaxUint32))
		was := slices.Clone(all)
		expectOf(t, piece, fencesOf(l))
		if !slices.Equal(all, was) {
			t.Errorf("%v was changed to %v", was, all)
		}
	}
}

// P12.3, R4: fences that are handed in aren't changed, their spare room neither, and the spare room doesn't count.
func TestFencesAreNotChanged(t *testing.T) {
	for _, fences := range slices.Concat(fenceRows(), fallingRows()) {
		want := told(slices.Clip(slices.Clone(fences)))
		piece, all := roomy[uint64](fences, 0, 6, most, 1)
		was := slices.Clone(all)
		if told(piece) != want {
			t.Errorf("with others behind it something else is told of %v", fences)
		}
		if !slices.Equal(all, was) {
			t.Errorf("%v was changed to %v", was, all)
		}
	}
}

// P12.3, R4: what Of answers stays what it is when the entries change, which aren't kept, and when something is appended to another answer.
func TestOfIsNewMemory(t *testing.T) {
	for _, l := range entryRows() {
		want := fencesOf(l)
		l = slices.Clone(l)
		first, second := fence.Of(l), fence.Of(l)
		_ = append(first, 99, 98)
		for i := range l {
			l[i].Hash ^= 85
		}
		if !slices.Equal(first, want) || !slices.Equal(second, want) {
			t.Errorf("behind a change of the entries: %v, %v; it ought to be %v", first, second, want)
		}
		changeFences(first)
		if !slices.Equal(second, want) {
			t.Errorf("a change of one answer is in the other one: %v; it ought to be %v", second, want)
		}
		expectOf(t, l, fencesOf(l))
	}
}

// P12.3, R4: what Put wrote stays what it is when the fences change, which aren't kept.
func TestFencesAreNotKept(t *testing.T) {
	for _, fences := range slices.Concat(fenceRows(), fallingRows()) {
		want := written(fences)
		fences = slices.Clone(fences)
		var w cursor.Buffer
		fence.Put(&w, fences)
		changeFences(fences)
		if b := w.Bytes(); !bytes.Equal(b, want) {
			t.Errorf("behind a change of the fences: %v; it ought to be %v", b, want)
		}
		if b := put(fences); !bytes.Equal(b, written(fences)) {
			t.Errorf("%v are put as %v", fences, b)
		}
	}
}

// P12.3, R4: bytes that are read aren't changed, their spare room neither; fences that were got stay what they are when the bytes change.
func TestBytesAreNotChangedOrKept(t *testing.T) {
	for _, fences := range slices.Concat(fenceRows(), fallingRows()) {
		n := len(fences)
		b, all := roomy(written(fences), written(ends())...)
		was := bytes.Clone(all)
		if x := get(b, n+1); x.returned {
			t.Errorf("Get of %v went into the spare room: %v", fences, x.fences)
		}
		x, want := get(b, n), gotOf(was[:8*n], n)
		if !x.same(want) || !bytes.Equal(all, was) {
			t.Errorf("Get of %v: %v, or the bytes were changed", fences, x)
		}
		for i := range all {
			all[i] ^= 85
		}
		if !slices.Equal(x.fences, want.fences) {
			t.Errorf("behind a change of the bytes: %v; it ought to be %v", x.fences, want.fences)
		}
		expectGet(t, b, n)
	}
}

// P12.3, R4: fences that were got share nothing with others.
func TestGotIsNewMemory(t *testing.T) {
	for _, fences := range fenceRows() {
		n := len(fences)
		b := join(put(fences), put(fences))
		var first, second []uint64
		cursor.Run(b, func(c *cursor.Cursor) {
			first = fence.Get(c, n)
			_ = append(first, 99)
			second = fence.Get(c, n)
		})
		_ = append(first, 98)
		changeFences(first)
		third := get(b, n).fences
		if !slices.Equal(second, fences) || !slices.Equal(third, fences) || !bytes.Equal(b, join(written(fences), written(fences))) {
			t.Errorf("a change of the fences that were got changed %v, %v, or the bytes", second, third)
		}
		if more := append(second, 97); !slices.Equal(more[:n], fences) || !slices.Equal(third, fences) {
			t.Errorf("what was appended to %v changed them, or another answer", fences)
		}
	}
}

// R5: what is answered hangs on the arguments alone: between other calls it is the same.
func TestCallsTellTheSameAgain(t *testing.T) {
	rows := slices.Concat(fenceRows(), fallingRows())
	var first []string
	for _, fences := range rows {
		first = append(first, told(fences))
	}
	for i := len(rows) - 1; i >= 0; i-- {
		get(put(rows[i]), len(rows[i]))
		fence.Of(entries(rows[i]))
		if told(rows[i]) != first[i] {
			t.Errorf("of %v something else is told the second time", rows[i])
		}
	}
}
