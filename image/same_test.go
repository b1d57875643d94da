package image_test

import (
	"math/rand/v2"
	"slices"
	"strings"
	"testing"

	"fascicle/api"
	"fascicle/image"
)

// expectSame holds Same, asked both ways, against what it ought to tell.
func expectSame(t *testing.T, a, b []api.Record, want bool) {
	t.Helper()
	if image.Same(a, b) != want || image.Same(b, a) != want {
		t.Errorf("Same of %s and %s: %t", tell(a), tell(b), !want)
	}
}

// others are records each of which differs from one in one thing at least.
func others(r api.Record) []api.Record {
	var l []api.Record
	add := func(change func(x *api.Record)) {
		x := r
		if change(&x); x != r {
			l = append(l, x)
		}
	}
	add(func(x *api.Record) { x.Delete = !x.Delete })
	for _, seq := range []uint64{r.Seq + 1, r.Seq - 1, r.Seq ^ 1<<32, r.Seq ^ 1<<63, 0} {
		add(func(x *api.Record) { x.Seq = seq })
	}
	for _, text := range []func(s string) string{
		func(s string) string { return s + "\x00" },
		func(s string) string { return "x" + s },
		func(s string) string { return s[:len(s)/2] },
		func(s string) string { return strings.Repeat("\x00", len(s)) },
		func(s string) string { return "" },
	} {
		add(func(x *api.Record) { x.Key = text(x.Key) })
		add(func(x *api.Record) { x.Value = text(x.Value) })
	}
	add(func(x *api.Record) { x.Key, x.Value = x.Value, x.Key })
	add(func(x *api.Record) { x.Key, x.Value = x.Key+"v", x.Value+"k" })
	return l
}

// P16.1: rows that are alike, in memory of their own; no texts of one stand in the other.
func TestSameOfRowsThatAreAlike(t *testing.T) {
	for _, l := range rows() {
		expectSame(t, l, l, true)
		var alike []api.Record
		for _, r := range l {
			r.Key, r.Value = strings.Clone(r.Key), strings.Clone(r.Value)
			alike = append(alike, r)
		}
		expectSame(t, l, alike, true)
		expectSame(t, l, append(alike, put(1, "spare", ""))[:len(l)], true)
	}
}

// P16.1: no records, nil and empty.
func TestSameOfNoRecords(t *testing.T) {
	none := [][]api.Record{nil, {}, many(2)[:0]}
	for _, a := range none {
		for _, b := range none {
			expectSame(t, a, b, true)
		}
		expectSame(t, a, []api.Record{{}}, false)
		expectSame(t, a, many(1), false)
	}
}

// P16.1: one record, at each place, that differs in its Seq, Key, Value or Delete.
func TestSameOfRowsWithOneThatDiffers(t *testing.T) {
	base := []api.Record{put(1, "a", "b"), gone(2, "key"), put(300, "\x00", ""), put(1<<40, "k", strings.Repeat("v", 300)), {}}
	for at, r := range base {
		for _, x := range others(r) {
			other := slices.Clone(base)
			other[at] = x
			expectSame(t, base, other, false)
			expectSame(t, base[:at+1], other[:at+1], false)
			expectSame(t, base[at:], other[at:], false)
		}
	}
}

// P16.1: the same records in another order, and others of them.
func TestSameOfOtherOrdersAndNumbers(t *testing.T) {
	l := many(6)
	for i := range l {
		expectSame(t, l, l[:i], false)
		expectSame(t, l, l[i+1:], false)
		expectSame(t, l, slices.Delete(slices.Clone(l), i, i+1), false)
		expectSame(t, l, with(l, i, l[i]), false)
		expectSame(t, l, with(l, i, api.Record{}), false)
		for k := range i {
			other := slices.Clone(l)
			other[i], other[k] = l[k], l[i]
			expectSame(t, l, other, false)
		}
	}
	expectSame(t, l, append(slices.Clone(l), l...), false)
	expectSame(t, l, append(slices.Clone(l), api.Record{}), false)
}

// P16.1: also of records that may not be, or don't rise.
func TestSameOfAnyRecords(t *testing.T) {
	for _, l := range mayNot() {
		expectSame(t, l, slices.Clone(l), true)
		expectSame(t, l, l[1:], false)
	}
	falling := []api.Record{put(2, "a", ""), put(1, "a", ""), put(1, "a", "")}
	expectSame(t, falling, slices.Clone(falling), true)
	expectSame(t, falling, falling[:2], false)
	r := rand.New(rand.NewPCG(16, 3))
	for range 300 {
		l := anyRecords(r, 1+r.IntN(30), 1+r.IntN(100))
		other := slices.Clone(l)
		expectSame(t, l, other, true)
		at := r.IntN(len(l))
		changes := others(l[at])
		other[at] = changes[r.IntN(len(changes))]
		expectSame(t, l, other, false)
	}
}

// P16.2: the same records have the same image, however they came to be; unlike ones have unlike ones.
func TestUnlikeRecordsHaveUnlikeImages(t *testing.T) {
	base := []api.Record{put(5, "a", "b"), gone(700, "key"), put(1<<20, "\x00", ""), put(1<<40, "k", of(3000)), put(1<<41, "k", of(3000)), gone(1<<42, "a")}
	l := append(rows(), base, base[1:], base[:3])
	for at, r := range base {
		for _, x := range others(r) {
			other := slices.Clone(base)
			other[at] = x
			l = append(l, other)
		}
	}
	for _, c := range []api.Config{config(12, 5), config(12, 128), config(13, 4), config(14, 1)} {
		seen := map[string][]api.Record{}
		for _, row := range l {
			b, e := image.Encode(c, row)
			if e != api.OK {
				continue // some of the others may not be
			}
			if first, ok := seen[string(b)]; ok && !slices.Equal(first, row) {
				t.Errorf("by %v %s have the image of %s", c, tell(row), tell(first))
			}
			seen[string(b)] = row
		}
		if len(seen) < 80 {
			t.Errorf("by %v there are just %d images", c, len(seen))
		}
	}
}

// P16.2: by another config the same records have another image.
func TestUnlikeConfigsHaveUnlikeImages(t *testing.T) {
	for _, l := range rows() {
		if len(l) == 0 {
			continue
		}
		seen := map[string]api.Config{}
		for _, c := range configs() {
			b := string(expectImage(t, c, l))
			if first, ok := seen[b]; ok {
				t.Errorf("%s have the same image by %v and %v", tell(l), first, c)
			}
			seen[b] = c
		}
	}
}
