package table_test

import (
	"bytes"
	"fmt"
	"slices"
	"testing"

	"fascicle/cursor"
	"fascicle/table"
)

// lists are entries that rise, and some that don't.
func lists() [][]table.Entry {
	return slices.Concat(rows(), wrong())
}

// roomy gives entries with others behind them, in their spare room: those, and all.
func roomy(l []table.Entry) (piece, all []table.Entry) {
	all = slices.Concat(l, []table.Entry{entry(0, 0), entry(6, 6), entry(most, mostA), entry(1, 1)})
	return all[:len(l)], all
}

// changeEntries makes each entry another one, those in the spare room, too.
func changeEntries(l []table.Entry) {
	l = l[:cap(l)]
	for i := range l {
		l[i] = entry(l[i].Hash^85, l[i].At^85)
	}
}

// told is all that is answered of entries, as a text.
func told(l []table.Entry) string {
	text := fmt.Sprint(table.Rising(l), table.Sorted(l), put(l))
	for _, hash := range around(nil) {
		from, to := table.Find(l, hash)
		text += fmt.Sprint(" ", from, to)
	}
	return text
}

// P11.3, R4: entries that are handed in aren't changed, their spare room neither, and the spare room doesn't count.
func TestEntriesAreNotChanged(t *testing.T) {
	for _, l := range lists() {
		want := told(slices.Clip(slices.Clone(l)))
		piece, all := roomy(l)
		was := slices.Clone(all)
		if told(piece) != want {
			t.Errorf("with others behind it something else is told of %v", l)
		}
		if !slices.Equal(all, was) {
			t.Errorf("%v was changed to %v", was, all)
		}
	}
}

// P11.3, R4: what Sorted answers, and what Put wrote, stay what they are when the entries change, which aren't kept.
func TestEntriesAreNotKept(t *testing.T) {
	for _, l := range lists() {
		l = slices.Clone(l)
		want, wantB := sorted(l), written(l)
		got := table.Sorted(l)
		var w cursor.Buffer
		table.Put(&w, l)
		changeEntries(l)
		if b := w.Bytes(); !slices.Equal(got, want) || !bytes.Equal(b, wantB) {
			t.Errorf("behind a change of the entries: %v, %v; it ought to be %v, %v", got, b, want, wantB)
		}
		expectSorted(t, l, sorted(l))
		if b := put(l); !bytes.Equal(b, written(l)) {
			t.Errorf("%v are put as %v", l, b)
		}
	}
}

// P11.3, R4: what Sorted answers shares nothing with the entries, nor with another answer: what is written into it, or appended to it, isn't seen there.
func TestSortedIsNewMemory(t *testing.T) {
	for _, l := range lists() {
		piece, all := roomy(l)
		was := slices.Clone(all)
		want := sorted(l)
		first, second := table.Sorted(piece), table.Sorted(piece)
		_ = append(first, entry(99, 99), entry(98, 98))
		changeEntries(first)
		third := table.Sorted(piece)
		if !slices.Equal(second, want) || !slices.Equal(third, want) || !slices.Equal(all, was) {
			t.Errorf("a change of what Sorted answered of %v changed %v, %v or %v", l, second, third, all)
		}
		if again := table.Sorted(second); !slices.Equal(again, want) || !slices.Equal(second, want) {
			t.Errorf("Sorted of what was sorted, %v: %v", second, again)
		}
	}
}

// P11.3, R4: bytes that are read aren't changed, their spare room neither; entries that were got stay what they are when the bytes change.
func TestBytesAreNotChangedOrKept(t *testing.T) {
	for _, l := range lists() {
		n := len(l)
		all := join(put(l), put(ends()[:3]))
		was := bytes.Clone(all)
		b := all[:12*n]
		if x := get(b, n+1); x.returned {
			t.Errorf("Get of %v went into the spare room: %v", l, x.l)
		}
		x := get(b, n)
		if !bytes.Equal(all, was) {
			t.Errorf("the bytes of %v were changed, or what stands behind them", l)
		}
		for i := range all {
			all[i] ^= 85
		}
		if want := gotOf(was[:12*n], n); !x.same(want) {
			t.Errorf("behind a change of the bytes: %v; it ought to be %v", x, want)
		}
		expectGet(t, b, n)
	}
}

// P11.3, R4: entries that were got share nothing with others.
func TestGotIsNewMemory(t *testing.T) {
	for _, l := range rows() {
		b := join(put(l), put(l))
		var first, second []table.Entry
		cursor.Run(b, func(c *cursor.Cursor) {
			first = table.Get(c, len(l))
			_ = append(first, entry(99, 99))
			second = table.Get(c, len(l))
		})
		_ = append(first, entry(98, 98))
		changeEntries(first)
		third := get(b, len(l)).l
		if !slices.Equal(second, l) || !slices.Equal(third, l) || !bytes.Equal(b, join(written(l), written(l))) {
			t.Errorf("a change of the entries that were got changed %v, %v, or the bytes", second, third)
		}
		if more := append(second, entry(97, 97)); !slices.Equal(more[:len(l)], l) || !slices.Equal(third, l) {
			t.Errorf("what was appended to %v changed them, or another answer", l)
		}
	}
}

// R5: entries can be compared by ==, and have just these fields, in this order.
func TestEntriesCanBeCompared(t *testing.T) {
	if (table.Entry{7, 9}) != entry(7, 9) || entry(7, 9) == entry(7, 8) || entry(7, 9) == entry(8, 9) || entry(7, 9) == entry(9, 7) {
		t.Error("an entry isn't its Hash and its At")
	}
}

// R5: what is answered hangs on the arguments alone: between other calls it is the same.
func TestCallsTellTheSameAgain(t *testing.T) {
	l := lists()
	var first []string
	for _, x := range l {
		first = append(first, told(x))
	}
	hash := table.Hash("abc")
	for i := len(l) - 1; i >= 0; i-- {
		get(put(l[i]), len(l[i]))
		if told(l[i]) != first[i] || table.Hash("abc") != hash {
			t.Errorf("of %v something else is told the second time", l[i])
		}
	}
}
