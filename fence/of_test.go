package fence_test

import (
	"math"
	"math/rand/v2"
	"slices"
	"testing"

	"fascicle/fence"
	"fascicle/table"
)

// P12.1: below 0 as 0, each side of a block's end, and the greatest number.
func TestCount(t *testing.T) {
	for _, c := range []struct{ n, want int }{
		{math.MinInt, 0}, {math.MinInt + 1, 0}, {math.MinInt32, 0}, {-17, 0}, {-16, 0}, {-15, 0}, {-1, 0},
		{0, 0},
		{1, 1}, {2, 1}, {15, 1}, {16, 1},
		{17, 2}, {31, 2}, {32, 2},
		{33, 3}, {40, 3}, {48, 3},
		{49, 4},
		{160, 10}, {161, 11},
		{1 << 20, 1 << 16}, {1<<20 + 1, 1<<16 + 1},
		{math.MaxInt32, 1 << 27},
		{math.MaxInt - 15, math.MaxInt / 16}, {math.MaxInt - 14, math.MaxInt/16 + 1},
		{math.MaxInt - 1, math.MaxInt/16 + 1}, {math.MaxInt, math.MaxInt/16 + 1},
	} {
		if got := fence.Count(c.n); got != c.want {
			t.Errorf("Count of %d: %d; it ought to be %d", c.n, got, c.want)
		}
	}
}

// P12.1: of each number it is as many more as there are places of a fence below it.
func TestCountGoesUpAtEachFence(t *testing.T) {
	want := 0
	for n := range 1000 {
		if got := fence.Count(n); got != want {
			t.Fatalf("Count of %d: %d; it ought to be %d", n, got, want)
		}
		if n%16 == 0 {
			want++
		}
	}
}

// expectOf holds Of of entries against what it ought to be.
func expectOf(t *testing.T, l []table.Entry, want []uint64) {
	t.Helper()
	if got := fence.Of(l); !slices.Equal(got, want) {
		t.Errorf("Of %v: %v; it ought to be %v", l, got, want)
	}
	if n := fence.Count(len(l)); n != len(want) {
		t.Errorf("Count of %d: %d; it ought to be %d", len(l), n, len(want))
	}
}

// P12.1: the chapter's example; none, one, and each side of a block's end.
func TestOf(t *testing.T) {
	numbers := func(n int) []table.Entry {
		return entries(hashesOf(n, func(i int) uint64 { return uint64(i) }))
	}
	expectOf(t, numbers(40), []uint64{0, 16, 32})
	expectOf(t, nil, nil)
	expectOf(t, []table.Entry{}, nil)
	expectOf(t, []table.Entry{entry(7, 9)}, []uint64{7})
	expectOf(t, []table.Entry{entry(0, math.MaxUint32)}, []uint64{0})
	expectOf(t, []table.Entry{entry(most, 0)}, []uint64{most})
	expectOf(t, numbers(15), []uint64{0})
	expectOf(t, numbers(16), []uint64{0})
	expectOf(t, numbers(17), []uint64{0, 16})
	expectOf(t, numbers(32), []uint64{0, 16})
	expectOf(t, numbers(33), []uint64{0, 16, 32})
	expectOf(t, numbers(100), []uint64{0, 16, 32, 48, 64, 80, 96})
}

// P12.1: Hashes that are all the same, and that are the same over a fence.
func TestOfHashesThatAreTheSame(t *testing.T) {
	of := func(n int, rule func(i int) uint64) []table.Entry { return entries(hashesOf(n, rule)) }
	expectOf(t, of(50, func(int) uint64 { return 7 }), []uint64{7, 7, 7, 7})
	expectOf(t, of(48, func(int) uint64 { return 0 }), []uint64{0, 0, 0})
	expectOf(t, of(33, func(int) uint64 { return most }), []uint64{most, most, most})
	expectOf(t, of(50, func(i int) uint64 { return uint64(i / 20 * 10) }), []uint64{0, 0, 10, 20})
	expectOf(t, of(40, func(i int) uint64 { return uint64((i + 1) / 16) }), []uint64{0, 1, 2})
	expectOf(t, of(40, func(i int) uint64 { return uint64((i + 15) / 16) }), []uint64{0, 1, 2})
}

// P12.1: rows of all lengths.
func TestOfRows(t *testing.T) {
	for _, rule := range hashRules() {
		for n := range 151 {
			l := entries(hashesOf(n, rule))
			expectOf(t, l, fencesOf(l))
		}
	}
}

// P12.1, R1: of entries that don't rise they are those at the same places.
func TestOfEntriesThatDoNotRise(t *testing.T) {
	r := rand.New(rand.NewPCG(12, 1))
	for range 1000 {
		var l []table.Entry
		for range r.IntN(100) {
			l = append(l, entry(r.Uint64()>>r.IntN(64), r.Uint32()))
		}
		expectOf(t, l, fencesOf(l))
	}
}

// P12.1: many entries.
func TestOfManyEntries(t *testing.T) {
	l := entries(hashesOf(1<<20+1, func(i int) uint64 { return uint64(i) << 40 }))
	got := fence.Of(l)
	if len(got) != 1<<16+1 || !slices.Equal(got, fencesOf(l)) {
		t.Errorf("of %d entries %d fences, or they are others", len(l), len(got))
	}
}
