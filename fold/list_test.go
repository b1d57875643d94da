package fold_test

import (
	"fmt"
	"math"
	"slices"
	"testing"

	"fascicle/api"
	"fascicle/fold"
)

// P18.1: the keys of the row are told once each, rising, those that are deleted, too.
func TestKeys(t *testing.T) {
	l := []api.Record{put(5, "b", "1"), put(2, "a", "2"), gone(9, "b"), put(2, "c", "3"), put(1, "a", "4"), gone(7, "aa")}
	if keys := fold.Keys(l); !slices.Equal(keys, []string{"a", "aa", "b", "c"}) {
		t.Errorf("%q", keys)
	}
	if keys := fold.Keys([]api.Record{gone(1, "")}); !slices.Equal(keys, []string{""}) {
		t.Errorf("%q", keys)
	}
}

// P18.1: keys rise byte by byte, a beginning ahead of what it begins, and bytes from 0x80 on above those below; whatever order the row has.
func TestKeysRiseByteByByte(t *testing.T) {
	want := []string{"", "\x00", "\x00\x00", "\x01", "A", "Z", "a", "a\x00", "a\x00b", "aA", "ab", "abc", "b", "\x7f", "\x7f\xff", "\x80", "\x80\x00", "\xc3", "\xc3\xa4", "\xe2\x82\xac", "\xf0\x9f", "\xfe", "\xff", "\xff\x00", "\xff\xff"}
	for step := range len(want) {
		if step%5 == 0 { // 25 keys: a step of five would come back too early
			continue
		}
		var l []api.Record
		for i := range want {
			l = append(l, put(uint64(i), want[i*step%len(want)], "v"), gone(uint64(i), want[(i*step+3)%len(want)]))
		}
		if keys := fold.Keys(l); !slices.Equal(keys, want) {
			t.Errorf("by steps of %d: %q", step, keys)
		}
	}
}

// P18.1: Live has of each key that has a value its last record, by keys, rising, whatever the Seqs are.
func TestLive(t *testing.T) {
	l := []api.Record{put(5, "b", "1"), put(2, "a", "2"), gone(9, "b"), put(2, "c", "3"), put(1, "a", "4"), put(0, "\xff", ""), put(8, "", "e")}
	expectRecords(t, "live", fold.Live(l), []api.Record{l[6], l[4], l[3], l[5]})
}

// P18.1: a key that was deleted last isn't live, one that has a value again is; an empty value is one.
func TestLiveAndDeleted(t *testing.T) {
	l := []api.Record{put(1, "a", "x"), gone(2, "a"), put(3, "b", ""), gone(4, "c"), odd(5, "d", "text"), put(6, "a", "again")}
	expectRecords(t, "live", fold.Live(l), []api.Record{l[5], l[2]})
	expectRecords(t, "live ahead of the last one", fold.Live(l[:5]), l[2:3])
	expectRecords(t, "live behind another one that deletes", fold.Live(append(l, gone(0, "a"))), l[2:3])
	expectRecords(t, "of what is deleted alone", fold.Live([]api.Record{gone(1, "a"), put(1, "b", "x"), gone(1, "b"), odd(2, "", "x")}), nil)
}

// P18.1: Compact has of each key its last record, in the order of the row, those that delete too.
func TestCompact(t *testing.T) {
	l := []api.Record{put(5, "b", "1"), put(2, "a", "2"), gone(9, "b"), put(2, "c", "3"), put(1, "a", "4"), put(1, "c", ""), odd(3, "", "text")}
	expectRecords(t, "compact", fold.Compact(l), []api.Record{l[2], l[4], l[5], l[6]})
	expectRecords(t, "of keys that come once", fold.Compact(l[:2]), l[:2])
	expectRecords(t, "of what deletes", fold.Compact([]api.Record{gone(1, "z"), gone(2, "a"), gone(3, "z")}), []api.Record{gone(2, "a"), gone(3, "z")})
	alike := []api.Record{put(1, "a", "x"), put(1, "b", "y"), put(1, "a", "x")}
	expectRecords(t, "of records that are alike the last one is kept", fold.Compact(alike), alike[1:])
}

// P18.2: records are told by their Seqs, rising, whatever their keys are.
func TestSorted(t *testing.T) {
	l := []api.Record{put(5, "b", "1"), put(2, "a", "2"), gone(9, "b"), put(0, "z", "3"), put(3, "a", "4")}
	expectRecords(t, "sorted", fold.Sorted(l), []api.Record{l[3], l[1], l[4], l[0], l[2]})
	expectRecords(t, "what rises stays", fold.Sorted(fold.Sorted(l)), fold.Sorted(l))
}

// P18.2: of several of one Seq the first one of the row is told alone, be their keys, values and whether they delete the same or not, and wherever they stand.
func TestSortedOfOneSeq(t *testing.T) {
	alike := []api.Record{put(5, "a", "1"), put(5, "a", "2"), gone(5, "a"), put(5, "b", "1"), gone(5, ""), put(5, "a", "1")}
	for from := range alike {
		expectRecords(t, "of one Seq", fold.Sorted(alike[from:]), alike[from:from+1])
		apart := []api.Record{put(9, "z", "")}
		for _, r := range alike[from:] {
			apart = append(apart, r, put(uint64(len(apart)*3%8), "between", fmt.Sprint(len(apart))))
		}
		expectRecords(t, "of one Seq, apart", fold.Sorted(apart), modelSorted(apart))
	}
	l := []api.Record{put(2, "b", "first"), put(1, "a", "first"), put(2, "a", "second"), put(1, "b", "second"), put(1, "a", "third"), put(2, "b", "third")}
	expectRecords(t, "two Seqs", fold.Sorted(l), []api.Record{l[1], l[0]})
}

// P18.2: so it is with many records, too, more than a sort may take at one go.
func TestSortedOfMany(t *testing.T) {
	var l []api.Record
	for i := range 5000 {
		l = append(l, put(uint64(i*7919%1009), fmt.Sprint(i%13), fmt.Sprint(i)))
	}
	got := fold.Sorted(l)
	if len(got) != 1009 {
		t.Fatal(len(got))
	}
	for i, r := range got {
		first := slices.IndexFunc(l, func(other api.Record) bool { return other.Seq == uint64(i) })
		if r != l[first] {
			t.Fatalf("at %d %v, not %v", i, r, l[first])
		}
	}
}

// P18.2: the largest Seqs there are stand in their order, too; they count as numbers without a sign.
func TestSortedOfLargeSeqs(t *testing.T) {
	want := []uint64{0, 1, math.MaxUint32, 1 << 32, 1<<53 + 1, 1<<53 + 2, math.MaxInt64 - 1, math.MaxInt64, 1 << 63, 1<<63 + 1, math.MaxUint64 - 1, math.MaxUint64}
	for step := 1; step < len(want); step++ {
		var l []api.Record
		for i := range len(want) * len(want) {
			l = append(l, put(want[(i*step+i/len(want))%len(want)], "k", fmt.Sprint(i)))
		}
		got := fold.Sorted(l)
		expectRecords(t, "large Seqs", got, modelSorted(l))
		for i, r := range got {
			if len(got) != len(want) || r.Seq != want[i] {
				t.Fatalf("by steps of %d: %v", step, got)
			}
		}
	}
}

// P18.1, P18.2: many keys that come often are told in time.
func TestManyRecords(t *testing.T) {
	const n, keys = 200_000, 50_000
	var l []api.Record
	for i := range n {
		r := put(uint64(n-i), fmt.Sprintf("%06d", i*7%keys), fmt.Sprint(i))
		r.Delete = i%3 == 0
		l = append(l, r)
	}
	if all := fold.Keys(l); len(all) != keys || !slices.IsSorted(all) {
		t.Error(len(all))
	}
	expectRecords(t, "compact", fold.Compact(l), l[n-keys:])
	expectRecords(t, "sorted", fold.Sorted(l)[:2], []api.Record{l[n-1], l[n-2]})
	if live := fold.Live(l); len(live) != keys*2/3 || !fold.Same(live, fold.Compact(live)) {
		t.Error(len(live))
	}
}
