package wide_test

import (
	"bytes"
	"testing"

	"fascicle/wide"
)

// P4.2, R4: what is handed in isn't changed, its spare room neither, and the spare room doesn't count.
func TestBytesAreNotChanged(t *testing.T) {
	for size := range sums {
		all := sample(size + 40)
		b := all[:size]
		if wide.Sum(seeds[1], b) != sums[size][1] {
			t.Errorf("of %d bytes with others behind them another sum is told", size)
		}
		s := wide.New(seeds[1])
		told(t, s.Write(all[:size/2]), 1, size/2)
		told(t, s.Write(all[size/2:size]), 1, size)
		if !bytes.Equal(all, sample(size+40)) {
			t.Errorf("%d bytes were changed: %v", size, all)
		}
	}
}

// P4.2: what is handed in isn't kept: a part that is changed behind Write doesn't change the sum.
func TestBytesAreNotKept(t *testing.T) {
	for size := range sums {
		b := sample(size)
		s := wide.New(seeds[2]).Write(b)
		clear(b)
		told(t, s, 2, size)
	}
}

// P4.2: all parts may come in the same memory.
func TestPartsInOneMemory(t *testing.T) {
	b := sample(len(sums) - 1)
	for length := 1; length <= len(b); length++ {
		memory := make([]byte, length)
		s := wide.New(seeds[3])
		for at := 0; at < len(b); at += length {
			n := copy(memory, b[at:])
			s.Write(memory[:n])
			clear(memory)
			told(t, s, 3, at+n)
		}
	}
}

// R5: of bytes that were changed the sum of what they are now is told.
func TestSumOfBytesThatWereChanged(t *testing.T) {
	b := sample(70)
	clear(b)
	if got := wide.Sum(seeds[0], b); got != wide.Sum(seeds[0], make([]byte, 70)) {
		t.Errorf("behind a change: %016x", got)
	}
	copy(b, sample(70))
	if got := wide.Sum(seeds[0], b); got != sums[70][0] {
		t.Errorf("behind a change back: %016x; it ought to be %016x", got, sums[70][0])
	}
}
