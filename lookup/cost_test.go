package lookup_test

import (
	"bytes"
	"fmt"
	"testing"

	"fascicle/api"
	"fascicle/fold"
	"fascicle/image"
	"fascicle/lookup"
	"fascicle/table"
)

// expectCost holds what it took to look for a key against what it ought to take.
func expectCost(t *testing.T, c api.Config, b []byte, key string, want fold.Kind, segments, footers, frames int) {
	t.Helper()
	kind, _, cost, e := lookup.Look(c, b, key)
	if kind != want || cost != (lookup.Cost{Segments: segments, Footers: footers, Frames: frames}) || e != api.OK {
		t.Errorf("Look of %.20q tells %d, %v, %d; it ought to be %d, and to take %d segments, %d footers, %d frames", key, kind, cost, e, want, segments, footers, frames)
	}
}

// P19.2: the last segment costs no footer and no frame; each one ahead of it that is looked at costs a footer, up to the one that tells.
func TestCost(t *testing.T) {
	c, l := three()
	b := encode(t, c, l)
	expectCost(t, c, b, "f", fold.Value, 1, 0, 0)
	expectCost(t, c, b, "e", fold.Deleted, 1, 0, 0)
	expectCost(t, c, b, "a", fold.Value, 2, 1, 1)
	expectCost(t, c, b, "c", fold.Deleted, 2, 1, 1)
	expectCost(t, c, b, "\xff", fold.Value, 2, 1, 1)
	expectCost(t, c, b, "b", fold.Value, 3, 2, 1)
	expectCost(t, c, b, "d\x00", fold.Value, 3, 2, 1)
	expectCost(t, c, b, "d", fold.Absent, 3, 2, 0)
	expectCost(t, c, b, "", fold.Absent, 3, 2, 0)
	expectCost(t, c, encode(t, c, l[:1]), "a", fold.Value, 1, 0, 0)
	expectCost(t, c, encode(t, c, l[:1]), "b", fold.Absent, 1, 0, 0)
}

// P19.2: of one key that comes several times in a sealed segment just the last frame is looked at; of keys that have one Hash each frame behind the one that tells, too, and all of them, if none tells.
func TestFramesOfOneHash(t *testing.T) {
	k := twins(4)
	c := config(12, 9)
	l := []api.Record{
		put(1, "far", of(3900)),
		put(2, k[0], "0"), put(3, k[1], "1"), put(4, k[1], "2"), gone(5, k[2]), put(6, k[0], "3"), put(7, k[1], "4"), put(8, "b", ""), put(9, "b", "b"), put(10, "c", of(3000)),
		put(11, k[1], of(900)), put(12, "d", of(2800)),
		put(13, "e", of(3500)),
	}
	b := encode(t, c, l)
	expectCost(t, c, b, "e", fold.Value, 1, 0, 0)
	expectCost(t, c, b, k[1], fold.Value, 2, 1, 1)
	expectCost(t, c, b, "b", fold.Value, 3, 2, 1)
	expectCost(t, c, b, k[0], fold.Value, 3, 2, 1+2)
	expectCost(t, c, b, k[2], fold.Deleted, 3, 2, 1+3)
	expectCost(t, c, b, k[3], fold.Absent, 4, 3, 1+6)
	expectCost(t, c, b, "far", fold.Value, 4, 3, 1)
	expectCost(t, c, b, "nobody", fold.Absent, 4, 3, 0)
}

// spoilUnasked overwrites all frames of sealed segments that needn't be looked at for a key, and all segments ahead of the one that tells, whole.
func spoilUnasked(c api.Config, b []byte, l []api.Record, places []image.Place, key string) []byte {
	other := bytes.Clone(b)
	last := places[len(l)-1].Segment
	tells, segment := 0, uint32(0)
	for i, r := range l {
		if r.Key == key {
			tells, segment = i, places[i].Segment
		}
	}
	for i, r := range l {
		if i >= tells && table.Hash(r.Key) == table.Hash(key) || places[i].Segment == last {
			continue
		}
		at := int(places[i].Segment)*sizeOf(c) + int(places[i].At)
		for other[at] != 0 {
			other[at] = 85
			at++
		}
	}
	copy(other, bytes.Repeat([]byte{0, 85, 0}, int(segment)*sizeOf(c)/3))
	return other
}

// P19.2: what isn't looked at may be whatever it is: the answer is the same, and takes as much.
func TestWhatIsNotLookedAt(t *testing.T) {
	c, l := three()
	k := twins(4)
	seq := l[len(l)-1].Seq
	for _, key := range []string{k[0], "x", k[1], k[2], "x", k[1], k[2], "x", k[0]} {
		seq++
		l = append(l, put(seq, key, fmt.Sprint(seq)))
	}
	l = append(l, put(seq+1, "y", of(3900)), put(seq+2, "z", of(3900)))
	b := encode(t, c, l)
	places := placesOf(t, c, l)
	if len(b) != 5*sizeOf(c) {
		t.Fatalf("%d bytes aren't five segments", len(b))
	}
	for _, key := range keysOf(l) {
		other := spoilUnasked(c, b, l, places, key)
		var got told
		got.kind, got.value, got.cost, got.e = lookup.Look(c, other, key)
		if want := modelTold(l, places, key); got != want {
			t.Errorf("where all else is spoilt, Look of %.20q tells %s, not %s", key, got, want)
		}
	}
}
