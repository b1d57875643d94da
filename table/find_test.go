package table_test

import (
	"math/rand/v2"
	"testing"

	"fascicle/table"
)

// expectFind holds Find of a Hash against from where to where it ought to stand.
func expectFind(t *testing.T, l []table.Entry, hash uint64, from, to int) {
	t.Helper()
	if a, b := table.Find(l, hash); a != from || b != to {
		t.Errorf("Find of %d in %v: %d, %d; it ought to be %d, %d", hash, l, a, b, from, to)
	}
}

// P11.1: of no entries both are 0.
func TestFindOfNoEntries(t *testing.T) {
	for _, hash := range []uint64{0, 1, high - 1, high, most} {
		expectFind(t, nil, hash, 0, 0)
		expectFind(t, []table.Entry{}, hash, 0, 0)
	}
}

// P11.1: of one entry: below it, it, above it.
func TestFindOfOneEntry(t *testing.T) {
	expectFind(t, []table.Entry{entry(7, 9)}, 6, 0, 0)
	expectFind(t, []table.Entry{entry(7, 9)}, 7, 0, 1)
	expectFind(t, []table.Entry{entry(7, 9)}, 8, 1, 1)
	expectFind(t, []table.Entry{entry(0, 0)}, 0, 0, 1)
	expectFind(t, []table.Entry{entry(0, mostA)}, 1, 1, 1)
	expectFind(t, []table.Entry{entry(0, 0)}, most, 1, 1)
	expectFind(t, []table.Entry{entry(most, 0)}, 0, 0, 0)
	expectFind(t, []table.Entry{entry(most, 0)}, most-1, 0, 0)
	expectFind(t, []table.Entry{entry(most, mostA)}, most, 0, 1)
	expectFind(t, []table.Entry{entry(high, 0)}, high-1, 0, 0)
	expectFind(t, []table.Entry{entry(high, 0)}, high, 0, 1)
	expectFind(t, []table.Entry{entry(high, 0)}, most, 1, 1)
}

// P11.1: below all, above all, between two, and those that stand once and several times at the beginning, in the middle and at the end.
func TestFind(t *testing.T) {
	once := []table.Entry{entry(3, 5), entry(6, 9), entry(9, 1)}
	expectFind(t, once, 2, 0, 0)
	expectFind(t, once, 3, 0, 1)
	expectFind(t, once, 4, 1, 1)
	expectFind(t, once, 6, 1, 2)
	expectFind(t, once, 8, 2, 2)
	expectFind(t, once, 9, 2, 3)
	expectFind(t, once, 10, 3, 3)
	expectFind(t, once, most, 3, 3)
	several := []table.Entry{
		entry(0, 0), entry(0, 7), entry(0, mostA),
		entry(5, 3), entry(5, 4), entry(5, 5), entry(5, 6),
		entry(high, 0),
		entry(most, 0), entry(most, mostA),
	}
	expectFind(t, several, 0, 0, 3)
	expectFind(t, several, 1, 3, 3)
	expectFind(t, several, 4, 3, 3)
	expectFind(t, several, 5, 3, 7)
	expectFind(t, several, 6, 7, 7)
	expectFind(t, several, high-1, 7, 7)
	expectFind(t, several, high, 7, 8)
	expectFind(t, several, high+1, 8, 8)
	expectFind(t, several, most-1, 8, 8)
	expectFind(t, several, most, 8, 10)
}

// around are the Hashes of entries, those next to them, and the ends.
func around(l []table.Entry) []uint64 {
	hashes := []uint64{0, 1, high - 1, high, high + 1, most - 1, most}
	for _, x := range l {
		hashes = append(hashes, x.Hash-1, x.Hash, x.Hash+1)
	}
	return hashes
}

// P11.1: in each row each Hash, those next to it, and the ends; also in each beginning of the row.
func TestFindInRows(t *testing.T) {
	for _, l := range rows() {
		for n := range len(l) + 1 {
			for _, hash := range around(l) {
				from, to := find(l[:n], hash)
				expectFind(t, l[:n], hash, from, to)
			}
		}
	}
}

// P11.1: in any row that rises.
func TestFindInAnyRow(t *testing.T) {
	r := rand.New(rand.NewPCG(11, 3))
	for range 3000 {
		l := sorted(some(r, r.IntN(30)))
		for _, hash := range around(nil) {
			from, to := find(l, hash)
			expectFind(t, l, hash, from, to)
		}
	}
}

// R1: of entries that don't rise it answers, too, places within them.
func TestFindOfEntriesThatDoNotRise(t *testing.T) {
	r := rand.New(rand.NewPCG(11, 4))
	for range 3000 {
		l := some(r, r.IntN(30))
		for _, hash := range around(nil) {
			if from, to := table.Find(l, hash); from < 0 || to < from || to > len(l) {
				t.Fatalf("Find of %d in %v: %d, %d", hash, l, from, to)
			}
		}
	}
}
