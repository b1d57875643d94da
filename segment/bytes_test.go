package segment_test

import (
	"bytes"
	"math/rand/v2"
	"slices"
	"testing"

	"fascicle/api"
	"fascicle/footer"
	"fascicle/segment"
	"fascicle/table"
)

// expectBuilt holds all that a builder tells against its records' segment, and Parse of it, too.
func expectBuilt(t *testing.T, b *segment.Builder, c api.Config, number uint32, l []api.Record) {
	t.Helper()
	x := lay(c, number, l)
	if r := b.Room(); r.Config != c || r.Number != number || r.Used != len(x.frames) || r.Count != len(l) {
		t.Errorf("Room of %s: %v; %d bytes are used", tell(l), r, len(x.frames))
	}
	expectBytes(t, "Frames of "+tell(l), b.Frames(), x.frames)
	open := b.Open()
	expectBytes(t, "Open of "+tell(l), open, whole(c, x.frames))
	expectView(t, c, number, open, viewOf(c, number, l, false))
	if len(l) == 0 {
		expectNotSealed(t, b)
		return
	}
	sealed, e := b.Seal()
	if e != api.OK || len(sealed) != sizeOf(c) {
		t.Errorf("Seal of %s: %d bytes, %d", tell(l), len(sealed), e)
	}
	expectBytes(t, "Seal of "+tell(l), sealed, whole(c, x.frames, x.foot))
	expectView(t, c, number, sealed, viewOf(c, number, l, true))
}

// P15.1, P15.2: segments without records, with one and with more, of several configs.
func TestBuildAndParse(t *testing.T) {
	for c, number := range heads() {
		expectBuilt(t, fresh(t, c, number), c, number, nil)
		for _, l := range rows() {
			expectBuilt(t, build(t, c, number, l), c, number, l)
		}
	}
}

// P15.1, P15.2: behind each record it is the segment of those so far.
func TestBuildRecordByRecord(t *testing.T) {
	c := config(12, 5)
	for _, l := range rows() {
		b := fresh(t, c, 4)
		for i, r := range l {
			expectBuilt(t, b, c, 4, l[:i])
			expectAdded(t, b, r)
		}
		expectBuilt(t, b, c, 4, l)
	}
}

// P15.1: the footer stands behind the frames, says where it begins, and each key's places; behind it all is Erased.
func TestSealPutsTheFooterBehind(t *testing.T) {
	c := config(12, 2)
	for _, l := range rows() {
		b := build(t, c, 0, l)
		frames := b.Frames()
		sealed, _ := b.Seal()
		if !bytes.HasPrefix(sealed, frames) {
			t.Fatalf("the frames of %s are %s", tell(l), differ(sealed, frames))
		}
		n := bytes.IndexByte(sealed[len(frames):], 0)
		f, e := footer.Get(sealed[len(frames):][:n])
		if e != api.OK || int(f.Used) != len(frames) || len(f.Table) != len(l) {
			t.Errorf("the footer of %s: Used %d, %d entries, %d", tell(l), f.Used, len(f.Table), e)
		}
		for i, r := range l {
			at := lay(c, 0, l).at[i]
			if places := footer.Places(f, table.Hash(r.Key)); !slices.Contains(places, at) {
				t.Errorf("%q of %s stands at %d; its places are %v", r.Key, tell(l), at, places)
			}
		}
		behind := sealed[len(frames)+n+1:]
		if bytes.Count(behind, []byte{255}) != len(behind) || len(sealed) != 4096 {
			t.Errorf("behind the footer of %s: %s", tell(l), begin(behind))
		}
	}
}

// P15.1, P15.2: as many as fit, small ones and ones of any size.
func TestBuildAsManyAsFit(t *testing.T) {
	r := rand.New(rand.NewPCG(15, 1))
	for round := range 60 {
		c := config(uint8(12+r.IntN(3)), uint32(1+r.IntN(300)))
		number := uint32(r.IntN(int(c.Segments)))
		b := fresh(t, c, number)
		most := []int{1, 10, 300, 2000}[round%4]
		var l []api.Record
		for _, x := range anyRecords(r, 2000, most) {
			fits := b.Room().Fits(len(recordOf(x)))
			_, e := b.Add(x)
			if fits != (e == api.OK) || !fits && e != api.ErrFull {
				t.Fatalf("Add of %s into %v: %d", tell([]api.Record{x}), b.Room(), e)
			}
			if fits {
				l = append(l, x)
			}
		}
		expectBuilt(t, b, c, number, l)
	}
}

// P15.1: a segment whose footer has as many bytes as it can have ends where that does.
func TestSealOfAFullSegment(t *testing.T) {
	c := config(12, 1)
	found := false
	for size := 100; size < 600 && !found; size++ { // by chance the footer's sum has no nought, so that it takes all its place
		first := exact(t, 1, size)
		left := build(t, c, 0, []api.Record{first}).Room().Left()
		l := []api.Record{first, exact(t, 2, left)}
		b := build(t, c, 0, l)
		expectBuilt(t, b, c, 0, l)
		sealed, _ := b.Seal()
		found = sealed[4095] == 0
	}
	if !found {
		t.Error("no segment is full up to its last byte")
	}
}

// P15.1: Room, Frames, Open and Seal change nothing for what follows, in each order.
func TestAskingChangesNothing(t *testing.T) {
	c := config(12, 2)
	ask := []func(b *segment.Builder){
		func(b *segment.Builder) { b.Room() },
		func(b *segment.Builder) { b.Frames() },
		func(b *segment.Builder) { b.Open() },
		func(b *segment.Builder) { b.Seal() },
	}
	for order := range 4 * 4 * 4 * 4 {
		b := fresh(t, c, 1)
		for i, r := range many(18) {
			for x := order; x > 0; x /= 4 {
				ask[x%4](b)
			}
			if i == 0 {
				expectBuilt(t, b, c, 1, nil)
			}
			expectAdded(t, b, r)
		}
		expectBuilt(t, b, c, 1, many(18))
		expectBuilt(t, b, c, 1, many(18))
	}
}

// P15.3: the same records have the same bytes, however often they are asked for, and with records between that were refused.
func TestTheSameRecordsAreTheSameBytes(t *testing.T) {
	c := config(12, 2)
	for _, l := range rows() {
		want := stateOf(build(t, c, 1, l))
		b := fresh(t, c, 1)
		for i, r := range l {
			expectRefused(t, b, put(1, "", ""), api.ErrForm)
			expectRefused(t, b, put(1, "k", string(make([]byte, 5000))), api.ErrTooLarge)
			if i%3 == 0 {
				stateOf(b)
			}
			expectAdded(t, b, r)
		}
		expectState(t, "the same records", b, want)
		expectState(t, "the same records, asked again", b, want)
		expectState(t, "the same records of another builder", build(t, c, 1, l), want)
	}
}

// P15.3: other records, or the same ones in another order, or of another number, are other bytes.
func TestOtherRecordsAreOtherBytes(t *testing.T) {
	seen := map[string]string{}
	l := rows()
	l = append(l, []api.Record{put(1, "a", "1"), put(2, "b", "2")}, []api.Record{put(2, "b", "2"), put(1, "a", "1")}, []api.Record{put(1, "a", "2"), put(2, "b", "1")}, []api.Record{put(1, "a1", ""), put(2, "b", "2")})
	for _, l := range l {
		for number := range uint32(2) {
			x := stateOf(build(t, config(12, 2), number, l))
			for _, b := range [][]byte{x.open, x.sealed} {
				if other, ok := seen[string(b)]; ok {
					t.Errorf("%s has the bytes of %s", tell(l), other)
				}
				seen[string(b)] = tell(l)
			}
		}
	}
}

// P15.1, P15.2: the greatest segment, with many.
func TestBuildOfTheGreatestSegment(t *testing.T) {
	c := config(24, 65536)
	l := many(3000)
	l = append(l, put(9999, "last", string(make([]byte, 1<<20))))
	expectBuilt(t, build(t, c, 65535, l), c, 65535, l)
}
