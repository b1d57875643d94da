package lookup_test

import (
	"slices"
	"testing"

	"fascicle/api"
	"fascicle/lookup"
)

// expectAll holds All against the records that it ought to tell.
func expectAll(t *testing.T, c api.Config, l []api.Record, want ...api.Record) {
	t.Helper()
	got, e := lookup.All(c, encode(t, c, l))
	if e != api.OK || !slices.Equal(got, want) {
		t.Errorf("by %v of %s All tells %s, %d, not %s", c, tell(l), tell(got), e, tell(want))
	}
}

// P19.1: the last record of each key, whole, also where it deletes; by keys, not by Seqs.
func TestAll(t *testing.T) {
	c := config(12, 3)
	expectAll(t, c, nil)
	expectAll(t, c, []api.Record{put(7, "a", "")}, put(7, "a", ""))
	expectAll(t, c, []api.Record{gone(7, "a")}, gone(7, "a"))
	expectAll(t, c, []api.Record{put(1, "b", "1"), put(2, "a", "2")}, put(2, "a", "2"), put(1, "b", "1"))
	expectAll(t, c, []api.Record{put(1, "b", "1"), put(2, "a", "2"), gone(3, "b")}, put(2, "a", "2"), gone(3, "b"))
	expectAll(t, c, []api.Record{put(1, "a", "1"), gone(2, "a"), put(3, "a", "3")}, put(3, "a", "3"))
}

// P19.1: keys go byte by byte: a beginning ahead of what begins with it, bytes above 127 behind all others.
func TestAllGoesByBytes(t *testing.T) {
	keys := []string{"\x00", "\x00\x00", "\x00\xff", "A", "Z", "a", "a\x00", "aa", "ab", "b", "\x7f", "\x80", "\xc3\xa4", "\xff", "\xff\x00", "\xff\xff"}
	var want []api.Record
	for i, key := range keys {
		want = append(want, put(uint64(100-i), key, key))
	}
	l := slices.Clone(want)
	slices.Reverse(l) // so that Seqs rise
	expectAll(t, config(12, 1), l, want...)
}

// P19.1: the last record of a key may stand in any segment; elder ones stand in segments ahead of it, or in the same one.
func TestAllOfSeveralSegments(t *testing.T) {
	c, l := three()
	if b := encode(t, c, l); len(b) != 3*sizeOf(c) {
		t.Fatalf("%d bytes aren't three segments", len(b))
	}
	expectAll(t, c, l, l[5], l[1], l[7], l[4], l[10], l[11], l[8])
}
