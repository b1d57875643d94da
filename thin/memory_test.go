package thin_test

import (
	"bytes"
	"testing"

	"fascicle/thin"
)

// P3.1: what is handed in isn't changed, its spare room neither, and the spare room doesn't count.
func TestBytesAreNotChanged(t *testing.T) {
	for size := range sums {
		all := sample(size + 20)
		b := all[:size]
		if thin.Sum(1, b) != sums[size][1] || !thin.Check(1, b, sums[size][1]) {
			t.Errorf("of %d bytes with others behind them another sum is told", size)
		}
		thin.Check(1, b, 0)
		if !bytes.Equal(all, sample(size+20)) {
			t.Errorf("%d bytes were changed: %v", size, all)
		}
	}
}

// P3.1: what is handed in isn't kept: of bytes that were changed the sum of what they are now is told.
func TestBytesAreNotKept(t *testing.T) {
	b := sample(40)
	first := thin.Sum(0, b)
	clear(b)
	second := thin.Sum(0, b)
	if second != thin.Sum(0, make([]byte, 40)) || thin.Check(0, b, first) {
		t.Errorf("behind a change of the bytes: %08x, behind %08x", second, first)
	}
	copy(b, sample(40))
	if thin.Sum(0, b) != first || !thin.Check(0, b, first) {
		t.Errorf("behind a change back: %08x; it ought to be %08x", thin.Sum(0, b), first)
	}
}
