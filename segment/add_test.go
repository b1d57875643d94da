package segment_test

import (
	"strings"
	"testing"

	"fascicle/api"
	"fascicle/footer"
	"fascicle/frame"
	"fascicle/pack"
	"fascicle/record"
	"fascicle/segment"
)

// state is all that a builder tells.
type state struct {
	room         pack.Room
	frames, open []byte
	sealed       []byte
	e            api.Errno
}

// stateOf asks a builder for all that it tells.
func stateOf(b *segment.Builder) state {
	x := state{room: b.Room(), frames: b.Frames(), open: b.Open()}
	x.sealed, x.e = b.Seal()
	return x
}

// expectState holds all that a builder tells against what it told.
func expectState(t *testing.T, what string, b *segment.Builder, want state) {
	t.Helper()
	got := stateOf(b)
	if got.room != want.room || got.e != want.e {
		t.Errorf("%s: Room %v, Seal %d; it was %v, %d", what, got.room, got.e, want.room, want.e)
	}
	expectBytes(t, what+": Frames", got.frames, want.frames)
	expectBytes(t, what+": Open", got.open, want.open)
	expectBytes(t, what+": Seal", got.sealed, want.sealed)
}

// expectRefused holds Add against an error; the builder is as it was.
func expectRefused(t *testing.T, b *segment.Builder, r api.Record, want api.Errno) {
	t.Helper()
	was := stateOf(b)
	if at, e := b.Add(r); at != 0 || e != want {
		t.Errorf("Add of %s into %v: %d, %d; it ought to be error %d", tell([]api.Record{r}), was.room, at, e, want)
	}
	expectState(t, "behind a record that was refused", b, was)
}

// expectAdded holds Add against where the frame ought to begin.
func expectAdded(t *testing.T, b *segment.Builder, r api.Record) {
	t.Helper()
	want := len(b.Frames())
	if at, e := b.Add(r); int(at) != want || e != api.OK {
		t.Errorf("Add of %s into %v: %d, %d; it ought to be %d", tell([]api.Record{r}), b.Room(), at, e, want)
	}
}

// P15.1: each frame begins where the frames ended that far, and stands there.
func TestAddTellsWhereTheFrameBegins(t *testing.T) {
	for c, number := range heads() {
		for _, l := range rows() {
			b := fresh(t, c, number)
			for i, r := range l {
				want := len(b.Frames())
				at, e := b.Add(r)
				if int(at) != want || e != api.OK || at != lay(c, number, l).at[i] {
					t.Errorf("record %d of %s begins at %d, %d; it ought to be %d", i, tell(l), at, e, want)
				}
				expectBytes(t, "the frame", b.Frames()[at:], recordOf(r))
			}
		}
	}
}

// P15.1: the room behind each record is the one that chapter 14 says.
func TestRoomBehindEachAdd(t *testing.T) {
	for c, number := range heads() {
		for _, l := range rows() {
			b := fresh(t, c, number)
			room, e := pack.Empty(c, number)
			for i, r := range l {
				if b.Room() != room || e != api.OK {
					t.Fatalf("Room ahead of record %d of %s by %v, %d: %v; it ought to be %v, %d", i, tell(l), c, number, b.Room(), room, e)
				}
				expectAdded(t, b, r)
				room, e = room.Take(len(recordOf(r)))
			}
			if b.Room() != room || e != api.OK {
				t.Fatalf("Room of %s by %v, %d: %v; it ought to be %v, %d", tell(l), c, number, b.Room(), room, e)
			}
		}
	}
}

// mayNot are records that may not be, with each of Check's errors.
func mayNot() map[api.Errno][]api.Record {
	return map[api.Errno][]api.Record{
		api.ErrForm: {
			{},
			put(1, "", ""),
			put(1, "", "v"),
			gone(1, ""),
			{Delete: true, Seq: 1, Key: "k", Value: "v"},
			{Delete: true, Seq: 1, Key: strings.Repeat("k", 4096), Value: "v"},
			{Delete: true, Seq: 1, Key: "k", Value: strings.Repeat("v", 1<<20+1)},
			put(1, "", strings.Repeat("v", 1<<20+1)),
		},
		api.ErrLong: {
			put(1, strings.Repeat("k", 4097), ""),
			gone(1, strings.Repeat("k", 4097)),
			{Delete: true, Seq: 1, Key: strings.Repeat("k", 4097), Value: "v"},
			put(1, "k", strings.Repeat("v", 1<<20+1)),
			put(1, strings.Repeat("k", 4097), strings.Repeat("v", 1<<20+1)),
		},
	}
}

// P15.1, R3: Check's errors, told of records that would fit, and of ones that are too large, too.
func TestAddOfRecordsThatMayNotBe(t *testing.T) {
	for _, c := range []api.Config{config(12, 2), config(16, 2), config(22, 2)} {
		for _, l := range [][]api.Record{nil, many(3)} {
			b := build(t, c, 1, l)
			for want, records := range mayNot() {
				for _, r := range records {
					if record.Check(r) != want {
						t.Fatalf("Check of %s tells %d", tell([]api.Record{r}), record.Check(r))
					}
					expectRefused(t, b, r, want)
				}
			}
			expectBuilt(t, b, c, 1, l)
		}
	}
}

// P15.1: the greatest frame that isn't too large, and one byte more.
func TestAddOfTooLarge(t *testing.T) {
	for _, c := range []api.Config{config(12, 1), config(12, 2), config(12, 300), config(12, 65536), config(14, 20000), config(17, 200)} {
		narrow, e := pack.Empty(c, c.Segments-1)
		if e != api.OK {
			t.Fatal(e)
		}
		most := narrow.Left()
		for _, number := range []uint32{0, c.Segments / 2, c.Segments - 1} {
			b := fresh(t, c, number)
			for _, more := range []int{1, 2, 100} {
				expectRefused(t, b, exact(t, 1, most+more), api.ErrTooLarge)
			}
			r := exact(t, 1, most)
			expectAdded(t, b, r)
			expectBuilt(t, b, c, number, []api.Record{r})
			expectRefused(t, b, r, api.ErrFull)
			expectRefused(t, b, exact(t, 1, most+1), api.ErrTooLarge)
		}
	}
}

// P15.1: too large is told of a frame that would fit into this segment, but not into the one with the longest head.
func TestAddAsksForTheLongestHead(t *testing.T) {
	for _, c := range []api.Config{config(12, 129), config(12, 16385), config(12, 65536)} {
		b := fresh(t, c, 0)
		r := exact(t, 1, b.Room().Left())
		if !b.Room().Fits(len(recordOf(r))) {
			t.Fatalf("the frame doesn't fit into segment 0 of %v", c)
		}
		expectRefused(t, b, r, api.ErrTooLarge)
	}
}

// P15.1: frames that just fill the segment, and one byte more.
func TestAddOfWhatDoesNotFit(t *testing.T) {
	for c, number := range heads() {
		for _, n := range []int{1, 2, 14, 15, 16, 17, 31, 32} {
			l := many(n)
			b := build(t, c, number, l)
			left := b.Room().Left()
			expectRefused(t, b, exact(t, 99, left+1), api.ErrFull)
			expectRefused(t, b, exact(t, 99, left+2), api.ErrFull)
			last := exact(t, 99, left)
			expectAdded(t, b, last)
			expectBuilt(t, b, c, number, append(l, last))
			if footer.Most(n+2)-footer.Most(n+1) > 0 { // not even a byte is left for a footer of one entry more
				expectRefused(t, b, put(100, "k", ""), api.ErrFull)
				expectRefused(t, b, gone(100, "k"), api.ErrFull)
			}
		}
	}
}

// P15.1: a smaller one still fits behind one that didn't.
func TestAddGoesOnBehindOneThatDidNotFit(t *testing.T) {
	c := config(12, 2)
	b := fresh(t, c, 1)
	var l []api.Record
	for _, x := range []struct {
		r api.Record
		e api.Errno
	}{
		{put(1, "a", strings.Repeat("v", 3000)), api.OK},
		{put(2, "b", strings.Repeat("v", 1000)), api.ErrFull},
		{put(3, "", "v"), api.ErrForm},
		{put(4, "b", strings.Repeat("v", 900)), api.OK},
		{put(5, "c", strings.Repeat("v", 5000)), api.ErrTooLarge},
		{put(6, "c", strings.Repeat("v", 100)), api.ErrFull},
		{gone(7, "a"), api.OK},
		{gone(8, strings.Repeat("a", 4097)), api.ErrLong},
		{gone(9, strings.Repeat("a", 50)), api.ErrFull},
		{gone(2, "b"), api.OK}, // its Seq isn't asked
	} {
		if x.e != api.OK {
			expectRefused(t, b, x.r, x.e)
			continue
		}
		expectAdded(t, b, x.r)
		l = append(l, x.r)
		expectBuilt(t, b, c, 1, l)
	}
	if len(l) != 4 {
		t.Errorf("%d were added", len(l))
	}
}

// P15.1, R2: of records with several errors the first one of the row is told.
func TestAddOfSeveralErrors(t *testing.T) {
	c := config(12, 1)
	full := build(t, c, 0, []api.Record{exact(t, 1, fresh(t, c, 0).Room().Left())})
	for want, records := range mayNot() { // full is it for each of them, many are too large, too
		for _, r := range records {
			expectRefused(t, full, r, want)
		}
	}
	expectRefused(t, full, put(2, "k", strings.Repeat("v", 1<<20)), api.ErrTooLarge)
	expectRefused(t, full, put(2, strings.Repeat("k", 4096), ""), api.ErrTooLarge)
	expectRefused(t, full, gone(2, strings.Repeat("k", 4096)), api.ErrTooLarge)
	expectRefused(t, full, gone(2, "k"), api.ErrFull)
}

// P15.1: the greatest key and value that may be.
func TestAddOfTheGreatestRecord(t *testing.T) {
	c := config(21, 2)
	l := []api.Record{put(1<<63, strings.Repeat("k", 4096), strings.Repeat("\xff", 1<<20)), gone(2, strings.Repeat("\x00", 4096))}
	b := build(t, c, 0, l)
	expectBuilt(t, b, c, 0, l)
	expectRefused(t, b, put(3, "k", strings.Repeat("\x01", 1<<20)), api.ErrFull)
	expectRefused(t, fresh(t, config(20, 2), 0), l[0], api.ErrTooLarge)
	expectAdded(t, fresh(t, config(20, 2), 0), put(1, "k", strings.Repeat("v", 1<<20-frame.Size(0)-footer.Most(1)-5000)))
}
