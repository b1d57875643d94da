package pack_test

import (
	"testing"

	"fascicle/api"
	"fascicle/pack"
)

// expectTooLarge holds TooLarge against what it ought to tell.
func expectTooLarge(t *testing.T, c api.Config, size int, want bool) {
	t.Helper()
	if got := pack.TooLarge(c, size); got != want {
		t.Errorf("TooLarge of %v, %d: %t", c, size, got)
	}
}

// P14.1: the greatest frame that isn't too large, worked out by hand, and one more: the head that counts is that of the greatest number.
func TestTooLargeOfKnownConfigs(t *testing.T) {
	for _, x := range []struct {
		c   api.Config
		fit int
	}{
		{config(12, 1), 4096 - 15 - 39},
		{config(12, 127), 4096 - 15 - 39},
		{config(12, 128), 4096 - 16 - 39},
		{config(12, 129), 4096 - 17 - 39}, // in the segments 0 to 127 one byte more would fit
		{config(12, 16383), 4096 - 17 - 39},
		{config(12, 16384), 4096 - 18 - 39},
		{config(12, 16385), 4096 - 19 - 39},
		{config(12, 65536), 4096 - 19 - 39},
		{config(24, 1), 1<<24 - 15 - 39},
		{config(24, 65536), 1<<24 - 19 - 39},
	} {
		expectTooLarge(t, x.c, 1, false)
		expectTooLarge(t, x.c, x.fit-1, false)
		expectTooLarge(t, x.c, x.fit, false)
		expectTooLarge(t, x.c, x.fit+1, true)
		expectTooLarge(t, x.c, x.fit+2, true)
	}
}

// P14.1: whatever fits into the empty room of the greatest number isn't too large, and fits into each other empty one.
func TestTooLargeAndRooms(t *testing.T) {
	m := newModel()
	for _, c := range right() {
		fit := empty(t, c, c.Segments-1).Left()
		for _, size := range []int{1, 2, fit - 3, fit - 2, fit - 1, fit, fit + 1, fit + 2, fit + 3, fit + 4, sizeOf(c)} {
			expectTooLarge(t, c, size, m.tooLarge(c, size))
			for _, number := range numbersOf(c) {
				if !pack.TooLarge(c, size) && !empty(t, c, number).Fits(size) {
					t.Errorf("%d by %v isn't too large, but doesn't fit into segment %d", size, c, number)
				}
			}
		}
	}
}

// P14.1: a size below 1 is too large, and one for which sums go beyond a number's bounds.
func TestTooLargeAtTheEnds(t *testing.T) {
	for _, c := range right() {
		for _, size := range append(small(), huge()...) {
			expectTooLarge(t, c, size, true)
		}
	}
}

// P14.1: of a config that may not be all is too large.
func TestTooLargeOfWrongConfigs(t *testing.T) {
	for _, c := range wrong() {
		for _, size := range append(append(small(), huge()...), 1, 2, 10, 100, 2000, 4000) {
			expectTooLarge(t, c, size, true)
		}
	}
}
