package fold_test

import (
	"slices"
	"testing"

	"fascicle/api"
	"fascicle/fold"
)

// expectSame holds what Same tells of two rows, either way round, against what it ought to be.
func expectSame(t *testing.T, a, b []api.Record, want bool) {
	t.Helper()
	if fold.Same(a, b) != want || fold.Same(b, a) != want {
		t.Errorf("%s and %s: %v, %v", tell(a), tell(b), fold.Same(a, b), fold.Same(b, a))
	}
}

// P18.1: rows are the same by each key, though they have other records, in another order, with other Seqs.
func TestSameByOtherRecords(t *testing.T) {
	l := []api.Record{put(1, "a", "x"), put(2, "b", "y"), gone(3, "c"), put(4, "", "")}
	expectSame(t, l, slices.Clone(l), true)
	back := slices.Clone(l)
	slices.Reverse(back)
	expectSame(t, l, back, true)
	expectSame(t, l, []api.Record{put(1, "a", "old"), put(9, "c", "z"), put(9, "b", "y"), gone(9, "b"), put(8, "b", "y"), gone(0, "c"), gone(7, ""), put(5, "a", "x"), put(5, "", "")}, true)
	expectSame(t, l, []api.Record{put(0, "a", "x"), put(0, "b", "y"), gone(0, "c"), put(0, "", "")}, true)
	expectSame(t, l, slices.Concat(l, l, back), true)
	expectSame(t, nil, []api.Record{}, true)
}

// P18.1: what is deleted is the same, whatever text its records have.
func TestSameOfDeleted(t *testing.T) {
	expectSame(t, []api.Record{gone(1, "a")}, []api.Record{put(1, "a", "x"), odd(2, "a", "text")}, true)
	expectSame(t, []api.Record{odd(1, "a", "one")}, []api.Record{odd(1, "a", "two")}, true)
	expectSame(t, []api.Record{odd(1, "a", "text")}, []api.Record{put(1, "a", "text")}, false)
}

// P18.1: rows aren't the same, if one key has another value, or has none, or is deleted, or is absent, in one of them.
func TestNotSame(t *testing.T) {
	l := []api.Record{put(1, "a", "x"), put(2, "b", "y"), gone(3, "c"), put(4, "", "")}
	expectSame(t, l, nil, false)
	for i, r := range l {
		without := slices.Delete(slices.Clone(l), i, i+1)
		expectSame(t, l, without, false)
		for _, other := range []api.Record{put(r.Seq, r.Key, r.Value+"z"), put(r.Seq, r.Key, "z"), put(r.Seq, r.Key+"z", r.Value), {Delete: !r.Delete, Seq: r.Seq, Key: r.Key, Value: r.Value}} {
			expectSame(t, l, append(slices.Clone(without), other), false)
		}
		expectSame(t, l, append(slices.Clone(l), put(9, r.Key, "z")), false)
		expectSame(t, l, append([]api.Record{put(9, r.Key, "z")}, l...), true)
	}
	expectSame(t, l, append(slices.Clone(l), gone(5, "d")), false)
	expectSame(t, l, append(slices.Clone(l), put(5, "d", "")), false)
	expectSame(t, []api.Record{put(1, "a", "x"), put(2, "b", "x")}, []api.Record{put(1, "a", "x"), put(2, "c", "x")}, false)
}

// P18.1: deleted, absent, and of an empty value are three, and not the same.
func TestSameOfKinds(t *testing.T) {
	kinds := [][]api.Record{nil, {gone(1, "a")}, {put(1, "a", "")}, {put(1, "a", "x")}, {put(1, "ab", "")}}
	for i, a := range kinds {
		for j, b := range kinds {
			expectSame(t, a, b, i == j)
			more := []api.Record{put(7, "k", "v"), gone(8, "")}
			expectSame(t, slices.Concat(more, a), slices.Concat(b, more), i == j)
		}
	}
}

// P18.1: of each two rows, and of all short ones, Same tells what the model tells.
func TestSameOfRows(t *testing.T) {
	for _, a := range rows() {
		for _, b := range rows() {
			expectSame(t, a, b, modelSame(a, b))
		}
	}
	var short [][]api.Record
	eachShort(t, few(), 2, func(l []api.Record) { short = append(short, l) })
	for _, a := range short {
		for _, b := range short {
			if t.Failed() {
				return
			}
			expectSame(t, a, b, modelSame(a, b))
		}
	}
	for seed := range uint64(100) {
		l := dice(seed, 40)
		expectSame(t, l, modelCompact(l), true)
		expectSame(t, l, dice(seed+1, 40), modelSame(l, dice(seed+1, 40)))
	}
}

// P18.1: with Same a row is held against each one that one record is left out of.
func TestSameWithoutOneRecord(t *testing.T) {
	for _, l := range append(rows(), dice(1, 60), dice(2, 60)) {
		for i := range l[:min(len(l), 60)] {
			without := slices.Delete(slices.Clone(l), i, i+1)
			expectSame(t, l, without, modelSame(l, without))
		}
	}
}

// expectValues holds the values that both rows tell of these keys against one another: a key that one has none for has none by the other.
func expectValues(t *testing.T, a, b []api.Record, keys []string) {
	t.Helper()
	for _, key := range keys {
		kind, value := fold.At(a, key)
		k, v := fold.At(b, key)
		if (kind == fold.Value) != (k == fold.Value) || value != v {
			t.Errorf("%s and %s: %.20q is %d, %.20q, and %d, %.20q", tell(a), tell(b), key, kind, value, k, v)
		}
	}
}

// expectFolded holds a row against its Compact and its Live.
func expectFolded(t *testing.T, l []api.Record, keys []string) {
	t.Helper()
	compact, live := fold.Compact(l), fold.Live(l)
	expectValues(t, l, compact, keys)
	expectValues(t, l, live, keys)
	expectSame(t, l, compact, true)
	expectSame(t, live, fold.Live(compact), true)
	expectRecords(t, "compact of compact", fold.Compact(compact), compact)
	expectRecords(t, "live of compact", fold.Live(compact), live)
	expectRecords(t, "live of live", fold.Live(live), live)
	expectRecords(t, "compact of live", fold.Compact(live), live)
	deleted := slices.ContainsFunc(compact, func(r api.Record) bool { return r.Delete })
	expectSame(t, l, live, !deleted)
	if keys := fold.Keys(compact); !slices.Equal(keys, fold.Keys(l)) || len(keys) != len(compact) {
		t.Errorf("of %s the keys are %.200q", tell(l), keys)
	}
}

// P18.3: a row, its Compact, and its Live tell the same values of each key, whether the row has it or not.
func TestFoldedTellTheSameValues(t *testing.T) {
	for _, l := range append(rows(), dice(3, 500)) {
		expectFolded(t, l, append(wellKnown(), modelKeys(l)...))
	}
	eachShort(t, few(), 3, func(l []api.Record) {
		expectFolded(t, l, []string{"", "a", "ab", "b"})
	})
}
