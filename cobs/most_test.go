package cobs_test

import (
	"math"
	"testing"

	"fascicle/cobs"
)

// P5.1: as the formula has it, at the edges of groups; below 0 as 0.
func TestMost(t *testing.T) {
	for n, want := range map[int]int{
		0: 1, 1: 2, 2: 3,
		253: 254, 254: 255, 255: 257, 256: 258,
		507: 509, 508: 510, 509: 512, 510: 513,
		762: 765, 763: 767,
		1 << 20:         1<<20 + 1 + 4128,
		math.MaxInt32:   math.MaxInt32 + 1 + 8454660,
		-1:              1,
		-253:            1,
		-254:            1,
		-255:            1,
		math.MinInt32:   1,
		math.MinInt + 1: 1,
		math.MinInt:     1,
	} {
		if got := cobs.Most(n); got != want {
			t.Errorf("Most of %d: %d; it ought to be %d", n, got, want)
		}
	}
}

// P5.1, P5.3: so many bytes there may be, and no more: bytes without a nought have Most, and where a nought stands among them there are never more.
func TestMostIsReached(t *testing.T) {
	for n := range 1100 {
		b := count(n)
		if size, most := cobs.Size(b), cobs.Most(n); size != most {
			t.Errorf("%d bytes have %d, stuffed; but Most is %d", n, size, most)
		}
		for at := 0; at < n; at += 1 + n/40 {
			b[at] = 0
			if size, most := cobs.Size(b), cobs.Most(n); size > most {
				t.Errorf("%d bytes with a nought at %d have %d, stuffed; but Most is %d", n, at, size, most)
			}
			b[at] = 1
		}
	}
}
