package table_test

import (
	"math/rand/v2"
	"slices"
	"testing"

	"fascicle/table"
	"fascicle/wide"
)

// P11.1: a key's Hash is its wide sum by the seed 0; these were worked out by another program.
func TestHash(t *testing.T) {
	for _, c := range []struct {
		key  string
		hash uint64
	}{
		{"", 0xef46db3751d8e999},
		{"\x00", 0xe934a84adb052768},
		{"a", 0xd24ec4f1a98c6e5b},
		{"abc", 0x44bc2cf5ad770999},
		{"abcd", 0xde0327b0d25d92cc},
		{"abcdefgh", 0x3ad351775b4634b7},
		{"\xff\xfe\x80", 0x9f49840836c4364b},
		{"\u00e9\u4e16", 0xff7aa5c15619e04a},
		{long(31), 0x60dd0d01083b99f0},
		{long(32), 0xe2df261fc2ec30eb},
		{long(33), 0xb3fa465f554208a6},
		{long(255), 0x568b95dc7ddbe218},
		{long(4095), 0x7f0cc7cf117581b7},
		{long(4096), 0xc7c0495455a2524f},
	} {
		if got := table.Hash(c.key); got != c.hash {
			t.Errorf("%.9q (%d bytes): %016x; it ought to be %016x", c.key, len(c.key), got, c.hash)
		}
	}
}

// P11.1: it is the wide sum of keys of each length, and of what is too long for a key.
func TestHashIsTheWideSum(t *testing.T) {
	var key []byte
	for i := range 5000 {
		if got, want := table.Hash(string(key)), wide.Sum(0, key); got != want {
			t.Fatalf("%d bytes: %016x; it ought to be %016x", len(key), got, want)
		}
		key = append(key, byte(i*i))
	}
}

// P11.1: by Hash, then by At, each against each.
func TestCompare(t *testing.T) {
	l := ends() // they rise
	for i, a := range l {
		for j, b := range l {
			want := 0
			if i < j {
				want = -1
			}
			if i > j {
				want = 1
			}
			if got := table.Compare(a, b); got != want {
				t.Errorf("%v, %v: %d; it ought to be %d", a, b, got, want)
			}
		}
	}
}

// P11.1: a Hash that is less, the same and greater, with an At that is less, the same and greater.
func TestCompareGoesByTheHashFirst(t *testing.T) {
	for _, c := range []struct {
		a, b table.Entry
		want int
	}{
		{entry(4, 1), entry(5, 2), -1},
		{entry(4, 2), entry(5, 2), -1},
		{entry(4, 3), entry(5, 2), -1},
		{entry(5, 1), entry(5, 2), -1},
		{entry(5, 2), entry(5, 2), 0},
		{entry(5, 3), entry(5, 2), 1},
		{entry(6, 1), entry(5, 2), 1},
		{entry(6, 2), entry(5, 2), 1},
		{entry(6, 3), entry(5, 2), 1},
		{entry(0, mostA), entry(most, 0), -1},
		{entry(most, 0), entry(0, mostA), 1},
		{entry(high, 0), entry(high-1, mostA), 1},
		{entry(high, 0), entry(0, 0), 1},
		{entry(high, 0), entry(most, 0), -1},
		{entry(0, 1<<31), entry(0, 1<<31-1), 1},
		{entry(0, mostA), entry(0, 0), 1},
		{table.Entry{}, table.Entry{}, 0},
	} {
		if got := table.Compare(c.a, c.b); got != c.want {
			t.Errorf("%v, %v: %d; it ought to be %d", c.a, c.b, got, c.want)
		}
	}
}

// expectSorted holds Sorted of entries against what it ought to be.
func expectSorted(t *testing.T, l, want []table.Entry) {
	t.Helper()
	if got := table.Sorted(l); !slices.Equal(got, want) {
		t.Errorf("Sorted of %v: %v; it ought to be %v", l, got, want)
	}
}

// P11.1: the chapter's example, and few entries.
func TestSorted(t *testing.T) {
	expectSorted(t, []table.Entry{entry(5, 1), entry(2, 9), entry(5, 0), entry(2, 9)}, []table.Entry{entry(2, 9), entry(5, 0), entry(5, 1)})
	expectSorted(t, nil, nil)
	expectSorted(t, []table.Entry{}, nil)
	expectSorted(t, []table.Entry{entry(0, 0)}, []table.Entry{entry(0, 0)})
	expectSorted(t, []table.Entry{entry(0, 0), entry(0, 0)}, []table.Entry{entry(0, 0)})
	expectSorted(t, []table.Entry{entry(most, mostA), entry(most, mostA), entry(most, mostA)}, []table.Entry{entry(most, mostA)})
	expectSorted(t, []table.Entry{entry(5, 2), entry(5, 1)}, []table.Entry{entry(5, 1), entry(5, 2)})
	expectSorted(t, []table.Entry{entry(most, 0), entry(high, 1), entry(high-1, 2), entry(0, 3)}, []table.Entry{entry(0, 3), entry(high-1, 2), entry(high, 1), entry(most, 0)})
}

// P11.1: rows that rise stay as they are; so they are got back when they fall, when each stands twice, and when they stand one row behind the other.
func TestSortedOfRows(t *testing.T) {
	for _, l := range rows() {
		expectSorted(t, l, l)
		falling := slices.Clone(l)
		slices.Reverse(falling)
		expectSorted(t, falling, l)
		expectSorted(t, slices.Concat(l, l), l)
		expectSorted(t, slices.Concat(falling, l, falling), l)
	}
	for _, l := range wrong() {
		expectSorted(t, l, sorted(l))
	}
}

// P11.1: entries in no order, many of which stand several times: the same in any other order, too.
func TestSortedOfAnyEntries(t *testing.T) {
	r := rand.New(rand.NewPCG(11, 1))
	for range 3000 {
		l := some(r, r.IntN(40))
		want := sorted(l)
		if !table.Rising(want) {
			t.Fatalf("%v don't rise", want)
		}
		expectSorted(t, l, want)
		r.Shuffle(len(l), func(i, j int) { l[i], l[j] = l[j], l[i] })
		expectSorted(t, l, want)
	}
}

// P11.1: many entries.
func TestSortedOfManyEntries(t *testing.T) {
	const n = 100000
	var l []table.Entry
	for i := range n {
		l = append(l, entry(uint64(i)*7919%n/4, uint32(i*7919%n)), entry(uint64(i/3), uint32(i/3)))
	}
	got := table.Sorted(l)
	if !table.Rising(got) {
		t.Fatal("they don't rise")
	}
	want := map[table.Entry]bool{}
	for _, x := range l {
		want[x] = true
	}
	for _, x := range got {
		if !want[x] {
			t.Fatalf("%v wasn't handed in, or is told twice", x)
		}
		delete(want, x)
	}
	if len(want) > 0 {
		t.Errorf("%d entries are gone", len(want))
	}
}

// expectRising holds Rising of entries against whether they ought to.
func expectRising(t *testing.T, l []table.Entry, want bool) {
	t.Helper()
	if got := table.Rising(l); got != want {
		t.Errorf("Rising of %v: %v", l, got)
	}
}

// P11.1: of none, of one, of several that rise, that fall, that stand twice.
func TestRising(t *testing.T) {
	for _, l := range rows() {
		expectRising(t, l, true)
		falling := slices.Clone(l)
		slices.Reverse(falling)
		expectRising(t, falling, len(l) < 2)
		expectRising(t, slices.Concat(l, l), len(l) == 0)
		for i := range l {
			expectRising(t, slices.Insert(slices.Clone(l), i, l[i]), false) // that one twice
			if i > 0 {
				swapped := slices.Clone(l)
				swapped[i-1], swapped[i] = l[i], l[i-1]
				expectRising(t, swapped, false)
			}
		}
	}
	for _, l := range wrong() {
		expectRising(t, l, false)
	}
}

// P11.1: of any entries: each pair of them, whatever stands between.
func TestRisingOfAnyEntries(t *testing.T) {
	r := rand.New(rand.NewPCG(11, 2))
	for range 20000 {
		l := some(r, r.IntN(5))
		expectRising(t, l, rising(l))
	}
}
