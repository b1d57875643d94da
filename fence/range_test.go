package fence_test

import (
	"math"
	"math/rand/v2"
	"testing"

	"fascicle/fence"
	"fascicle/table"
)

// expectRange holds Range of a Hash against from where to where its entries ought to be able to stand.
func expectRange(t *testing.T, fences []uint64, n int, hash uint64, from, to int) {
	t.Helper()
	if a, b := fence.Range(fences, n, hash); a != from || b != to {
		t.Errorf("Range of %d by %v of %d entries: %d, %d; it ought to be %d, %d", hash, fences, n, a, b, from, to)
	}
}

// P12.1: by no fences both are 0.
func TestRangeByNoFences(t *testing.T) {
	for _, hash := range ends() {
		expectRange(t, nil, 0, hash, 0, 0)
		expectRange(t, []uint64{}, 0, hash, 0, 0)
	}
}

// P12.1: by one fence: below it, at it, above it, with a block that is whole and one that isn't.
func TestRangeByOneFence(t *testing.T) {
	for _, n := range []int{1, 2, 9, 15, 16} {
		expectRange(t, []uint64{5}, n, 0, 0, 0)
		expectRange(t, []uint64{5}, n, 4, 0, 0)
		expectRange(t, []uint64{5}, n, 5, 0, n)
		expectRange(t, []uint64{5}, n, 6, 0, n)
		expectRange(t, []uint64{5}, n, most, 0, n)
		expectRange(t, []uint64{0}, n, 0, 0, n)
		expectRange(t, []uint64{0}, n, most, 0, n)
		expectRange(t, []uint64{most}, n, 0, 0, 0)
		expectRange(t, []uint64{most}, n, most-1, 0, 0)
		expectRange(t, []uint64{most}, n, most, 0, n)
		expectRange(t, []uint64{high}, n, high-1, 0, 0)
		expectRange(t, []uint64{high}, n, high, 0, n)
	}
}

// P12.1: the chapter's example, and Hashes around it: a Hash at a fence can stand in the block ahead, too.
func TestRange(t *testing.T) {
	fences := []uint64{0, 16, 32}
	expectRange(t, fences, 40, 17, 16, 32)
	expectRange(t, fences, 40, 0, 0, 16)
	expectRange(t, fences, 40, 1, 0, 16)
	expectRange(t, fences, 40, 15, 0, 16)
	expectRange(t, fences, 40, 16, 0, 32)
	expectRange(t, fences, 40, 31, 16, 32)
	expectRange(t, fences, 40, 32, 16, 40)
	expectRange(t, fences, 40, 33, 32, 40)
	expectRange(t, fences, 40, 39, 32, 40)
	expectRange(t, fences, 40, 40, 32, 40)
	expectRange(t, fences, 40, most, 32, 40)
}

// P12.1: the last block is whole, has all but one, and has one entry only.
func TestRangeUpToTheEnd(t *testing.T) {
	fences := []uint64{3, 50, 90}
	for _, n := range []int{33, 34, 47, 48} {
		expectRange(t, fences, n, 2, 0, 0)
		expectRange(t, fences, n, 3, 0, 16)
		expectRange(t, fences, n, 49, 0, 16)
		expectRange(t, fences, n, 50, 0, 32)
		expectRange(t, fences, n, 51, 16, 32)
		expectRange(t, fences, n, 89, 16, 32)
		expectRange(t, fences, n, 90, 16, n)
		expectRange(t, fences, n, 91, 32, n)
		expectRange(t, fences, n, most, 32, n)
	}
}

// P12.1: a Hash that stands at several fences: at the beginning, in the middle, at the end, at all.
func TestRangeOfHashesAtSeveralFences(t *testing.T) {
	expectRange(t, []uint64{0, 0, 10, 20}, 50, 0, 0, 32)
	expectRange(t, []uint64{0, 0, 10, 20}, 50, 1, 16, 32)
	expectRange(t, []uint64{0, 0, 10, 20}, 50, 10, 16, 48)
	expectRange(t, []uint64{0, 0, 10, 20}, 50, 15, 32, 48)
	expectRange(t, []uint64{0, 0, 10, 20}, 50, 20, 32, 50)
	expectRange(t, []uint64{3, 8, 8, 8, 9}, 70, 7, 0, 16)
	expectRange(t, []uint64{3, 8, 8, 8, 9}, 70, 8, 0, 64)
	expectRange(t, []uint64{3, 8, 8, 8, 9}, 70, 9, 48, 70)
	expectRange(t, []uint64{3, 8, most, most}, 60, most-1, 16, 32)
	expectRange(t, []uint64{3, 8, most, most}, 60, most, 16, 60)
	for _, hash := range []uint64{0, 7, high, most} {
		fences := []uint64{hash, hash, hash}
		expectRange(t, fences, 48, hash, 0, 48)
		expectRange(t, fences, 33, hash, 0, 33)
		if hash > 0 {
			expectRange(t, fences, 33, hash-1, 0, 0)
		}
		if hash < most {
			expectRange(t, fences, 33, hash+1, 32, 33)
		}
	}
	expectRange(t, []uint64{0, most}, 20, 0, 0, 16)
	expectRange(t, []uint64{0, most}, 20, 1, 0, 16)
	expectRange(t, []uint64{0, most}, 20, most-1, 0, 16)
	expectRange(t, []uint64{0, most}, 20, most, 0, 20)
}

// P12.1: by each row of fences, each number of entries that they can be of, each Hash of it, those next to it and the ends.
func TestRangeByRows(t *testing.T) {
	for _, fences := range fenceRows() {
		for n := max(16*len(fences)-15, 0); n <= 16*len(fences); n++ {
			for _, hash := range around(fences) {
				from, to := rangeOf(fences, n, hash)
				expectRange(t, fences, n, hash, from, to)
			}
		}
	}
}

// expectBlocks: is a Range of just those blocks that can have the Hash, as far as the fences tell?
func expectBlocks(t *testing.T, fences []uint64, n int, hash uint64) {
	t.Helper()
	from, to := fence.Range(fences, n, hash)
	for i := range fences {
		first, behind := 16*i, min(16*i+16, n)
		in, out := from <= first && behind <= to, behind <= from || to <= first
		if in == out || in != mayHold(fences, i, hash) {
			t.Fatalf("Range of %d by %v of %d entries: %d, %d; the block of %d to %d can have it: %v", hash, fences, n, from, to, first, behind, mayHold(fences, i, hash))
		}
	}
}

// P12.1: as few blocks as the fences tell, and no fewer.
func TestRangeHasAsFewBlocksAsTheFencesTell(t *testing.T) {
	for _, fences := range fenceRows() {
		for _, hash := range around(fences) {
			expectBlocks(t, fences, 16*len(fences), hash)
			expectBlocks(t, fences, max(16*len(fences)-15, 0), hash)
		}
	}
	r := rand.New(rand.NewPCG(12, 2))
	for range 1000 {
		fences := some(r, r.IntN(12))
		for _, hash := range around([]uint64{4, 9}) {
			expectBlocks(t, fences, 16*len(fences)-r.IntN(16)*min(len(fences), 1), hash)
		}
	}
}

// expectWithin: do all entries of each Hash stand within its Range by the entries' own fences? A Hash that none has is asked for, too.
func expectWithin(t *testing.T, l []table.Entry, hashes []uint64) {
	t.Helper()
	fences := fence.Of(l)
	for _, hash := range hashes {
		from, to := fence.Range(fences, len(l), hash)
		if wantFrom, wantTo := rangeOf(fencesOf(l), len(l), hash); from != wantFrom || to != wantTo {
			t.Fatalf("Range of %d in %d entries: %d, %d; it ought to be %d, %d", hash, len(l), from, to, wantFrom, wantTo)
		}
		for i, x := range l {
			if x.Hash == hash && (i < from || i >= to) {
				t.Fatalf("an entry of %d stands at %d of %d, its Range is %d to %d", hash, i, len(l), from, to)
			}
		}
	}
}

// P12.3: of rows of 0 to 150 entries each Hash's.
func TestAllEntriesOfAHashAreWithinItsRange(t *testing.T) {
	for _, rule := range hashRules() {
		for n := range 151 {
			hashes := hashesOf(n, rule)
			l := entries(hashes)
			if !table.Rising(l) {
				t.Fatalf("%v don't rise", l)
			}
			expectWithin(t, l, hashes)
		}
	}
}

// P12.3: of rows with few Hashes, each of which stands many times; Hashes next to them, too.
func TestAllEntriesOfFewHashesAreWithinTheirRange(t *testing.T) {
	r := rand.New(rand.NewPCG(12, 3))
	for n := range 151 {
		for range 10 {
			hashes := some(r, n)
			expectWithin(t, entries(hashes), around(hashes))
		}
	}
}

// P12.3: Find among the Range's entries alone tells those that it tells among all.
func TestFindWithinTheRange(t *testing.T) {
	r := rand.New(rand.NewPCG(12, 4))
	for range 500 {
		hashes := some(r, r.IntN(151))
		l := entries(hashes)
		fences := fence.Of(l)
		for _, hash := range around(hashes) {
			from, to := fence.Range(fences, len(l), hash)
			a, b := table.Find(l[from:to], hash)
			wantA, wantB := table.Find(l, hash)
			if wantA < wantB && (from+a != wantA || from+b != wantB) || wantA == wantB && a != b {
				t.Fatalf("%d: %d to %d within %d to %d; all of them are %d to %d", hash, a, b, from, to, wantA, wantB)
			}
		}
	}
}

// P12.1, R1: both are 0 where no fence isn't above the Hash, whatever number of entries is told.
func TestRangeIsEmptyWhateverTheNumber(t *testing.T) {
	for _, n := range []int{math.MinInt, -1, 0, 1, 16, math.MaxInt} {
		expectRange(t, nil, n, 0, 0, 0)
		expectRange(t, nil, n, most, 0, 0)
		expectRange(t, []uint64{5}, n, 4, 0, 0)
		expectRange(t, []uint64{5, 5, most}, n, 0, 0, 0)
	}
}

// R1: by fences that fall, and of numbers of entries that they aren't of, it answers, too.
func TestRangeAnswersWhateverItIsGiven(t *testing.T) {
	numbers := []int{math.MinInt, math.MinInt + 1, -17, -16, -1, 0, 1, 15, 16, 17, 100, math.MaxInt - 1, math.MaxInt}
	for _, fences := range append(fenceRows(), fallingRows()...) {
		for _, n := range numbers {
			for _, hash := range around(fences) {
				if from, to := fence.Range(fences, n, hash); from < 0 || from%16 != 0 || to > max(n, 0) || to > 16*len(fences) {
					t.Errorf("Range of %d by %v of %d entries: %d, %d", hash, fences, n, from, to)
				}
			}
		}
	}
}

// P12.1: by the fences of very many entries.
func TestRangeOfManyEntries(t *testing.T) {
	const n = 1<<20 - 3
	fences := hashesOf(fence.Count(n), func(i int) uint64 { return uint64(i) * 10 })
	for _, hash := range []uint64{0, 1, 9, 10, 11, 5000, 5001, 655340, 655341, 655349, 655350, 655351, most} {
		from, to := rangeOf(fences, n, hash)
		if a, b := fence.Range(fences, n, hash); a != from || b != to {
			t.Errorf("Range of %d: %d, %d; it ought to be %d, %d", hash, a, b, from, to)
		}
	}
}
