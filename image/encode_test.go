package image_test

import (
	"bytes"
	"math/rand/v2"
	"reflect"
	"slices"
	"strings"
	"testing"

	"fascicle/api"
	"fascicle/frame"
	"fascicle/image"
	"fascicle/record"
)

// P16.1: the chapter's examples.
func TestExamples(t *testing.T) {
	for _, l := range [][]api.Record{nil, {}, many(3)[:0]} {
		if b, e := image.Encode(config(12, 1), l); len(b) != 0 || e != api.OK {
			t.Errorf("Encode of no records: %d bytes, %d", len(b), e)
		}
	}
	l := []api.Record{put(1, "a", "b")}
	b, e := image.Encode(config(12, 1), l)
	if len(b) != 4096 || e != api.OK {
		t.Errorf("Encode of one record: %d bytes, %d", len(b), e)
	}
	if places, e := image.Places(config(12, 1), l); len(places) != 1 || places[0] != (image.Place{Segment: 0, At: 15}) || e != api.OK {
		t.Errorf("Places of one record: %v, %d", places, e)
	}
}

// R5: a place has just the fields that the chapter gives, in this order.
func TestPlaceHasItsFields(t *testing.T) {
	place := reflect.TypeFor[image.Place]()
	if place.NumField() != 2 {
		t.Fatalf("a place has %d fields", place.NumField())
	}
	for i, name := range []string{"Segment", "At"} {
		if f := place.Field(i); f.Name != name || f.Type != reflect.TypeFor[uint32]() {
			t.Errorf("field %d is %s, %v", i, f.Name, f.Type)
		}
	}
}

// P16.1: without records there is nothing, by each config that may be.
func TestNoRecords(t *testing.T) {
	for exp := uint8(12); exp <= 24; exp++ {
		for _, segments := range []uint32{1, 2, 127, 128, 65535, 65536} {
			for _, l := range [][]api.Record{nil, {}, many(3)[:0]} {
				if b := expectImage(t, config(exp, segments), l); len(b) != 0 {
					t.Errorf("by Exp %d no records have %d bytes", exp, len(b))
				}
			}
		}
	}
}

// P16.1: one record is one segment, not sealed, by each config that may be.
func TestOneRecord(t *testing.T) {
	for exp := uint8(12); exp <= 24; exp++ {
		for _, segments := range []uint32{1, 2, 127, 128, 65535, 65536} {
			for _, r := range []api.Record{put(1, "a", "b"), gone(9, "\x00")} {
				b := expectImage(t, config(exp, segments), []api.Record{r})
				used := len(headOf(config(exp, segments), 0)) + len(recordOf(r))
				if len(b) != 1<<exp || bytes.Count(b[used:], []byte{255}) != len(b)-used {
					t.Errorf("by Exp %d, Segments %d one record has %d bytes, or others than 255 behind %d of them", exp, segments, len(b), used)
				}
			}
		}
	}
}

// P16.1: none, one and many, in one segment and in several, by several configs.
func TestRowsOfRecords(t *testing.T) {
	several := 0
	for _, c := range configs() {
		for _, l := range rows() {
			if len(expectImage(t, c, l)) > 2*sizeOf(c) {
				several++
			}
		}
	}
	if several < 10 {
		t.Errorf("just %d images have more than two segments", several)
	}
}

// P16.1: each beginning of a row.
func TestBeginningsOfRows(t *testing.T) {
	c := config(12, 5)
	for _, l := range [][]api.Record{many(300), great(5), slices.Concat(many(100), frames(t, 101, 300, 3000, 20, 1000), []api.Record{gone(999, "a")})} {
		for n := range len(l) + 1 {
			expectImage(t, c, l[:n])
		}
	}
}

// usedBy gives how many bytes the frames of the first segment of records have.
func usedBy(c api.Config, l []api.Record) int {
	used := len(headOf(c, 0))
	for _, r := range l {
		used += len(recordOf(r))
	}
	return used
}

// counts are numbers of records at which a footer has a fence more, or a byte more by the stuffing, and some others.
func counts() []int {
	return []int{1, 2, 14, 15, 16, 17, 18, 30, 31, 32, 33, 50}
}

// P16.1: what just fills one segment, and one byte more.
func TestOneSegmentAndAByteMore(t *testing.T) {
	c := config(12, 2)
	for _, n := range counts() {
		l := many(n)
		left := sizeOf(c) - usedBy(c, l) - mostOf(n+1)
		if b := expectImage(t, c, append(many(n), exact(t, 900, left))); len(b) != 4096 {
			t.Errorf("%d records and a frame of %d bytes have %d bytes", n, left, len(b))
		}
		if b := expectImage(t, c, append(many(n), exact(t, 900, left+1))); len(b) != 2*4096 {
			t.Errorf("%d records and a frame of %d bytes have %d bytes", n, left+1, len(b))
		}
	}
}

// P16.1: what just fills one segment, and one record more: the first one is sealed then, its frames are as they were.
func TestOneSegmentAndARecordMore(t *testing.T) {
	c := config(12, 2)
	for _, n := range counts() {
		full := append(many(n), exact(t, 900, sizeOf(c)-usedBy(c, many(n))-mostOf(n+1)))
		used := usedBy(c, full)
		one := expectImage(t, c, full)
		two := expectImage(t, c, append(full, gone(901, "k")))
		if len(one) != 4096 || len(two) != 2*4096 {
			t.Fatalf("%d records have %d bytes, with one more %d", len(full), len(one), len(two))
		}
		if !bytes.Equal(two[:used], one[:used]) || two[used] == 255 || bytes.Count(one[used:], []byte{255}) != 4096-used {
			t.Errorf("the frames of %d records or what stands behind them are others than they ought to be", len(full))
		}
	}
}

// P16.1: segments that are just filled one behind the other.
func TestSegmentsThatAreJustFilled(t *testing.T) {
	c := config(12, 4)
	for _, sizes := range [][]int{{4042}, {4042, 4042}, {4042, 4042, 4042, 4042}, {4000, 30, 4042, 1000, 3030, 2000, 2030}} {
		expectImage(t, c, frames(t, 1, sizes...))
	}
	for _, x := range []struct {
		sizes []int
		want  []uint32
	}{
		{[]int{3000, 3000}, []uint32{0, 1}},
		{[]int{4000, 30, 4000, 31}, []uint32{0, 0, 1, 2}},
		{[]int{2000, 3000, 950, 20, 500, 20}, []uint32{0, 1, 1, 1, 2, 2}}, // nothing goes back into a segment that has room
		{[]int{30, 4042, 30, 4042}, []uint32{0, 1, 2, 3}},
	} {
		l := frames(t, 1, x.sizes...)
		expectImage(t, c, l)
		places, _ := image.Places(c, l)
		for i, place := range places {
			if place.Segment != x.want[i] {
				t.Errorf("of frames of %v bytes the places are %v", x.sizes, places)
			}
		}
	}
}

// P16.1: a frame counts as many bytes as it has, not as many as it could have: noughts save the stuffing's bytes.
func TestFramesCountTheirOwnBytes(t *testing.T) {
	c := config(12, 1)
	for n, want := range map[int]api.Errno{4026: api.OK, 4027: api.ErrTooLarge} {
		r := put(1, "k", strings.Repeat("\x00", n))
		if size := len(recordOf(r)); size != n+16 || frame.Size(record.Size(r)) <= 4043 {
			t.Fatalf("the frame has %d bytes", size)
		}
		if want != api.OK {
			expectUnpacked(t, c, []api.Record{r}, want)
			continue
		}
		expectImage(t, c, []api.Record{r})
	}
}

// P16.1: as many segments as there may be: the last one of them isn't sealed, and full all the same.
func TestAllSegments(t *testing.T) {
	for _, segments := range []uint32{1, 2, 3, 127, 128, 129, 300} {
		c := config(12, segments)
		l := great(int(segments))
		if b := expectImage(t, c, l); len(b) != int(segments)*4096 {
			t.Errorf("%d segments have %d bytes", segments, len(b))
		}
		expectImage(t, c, append(l, gone(1<<40, "k")))
		expectUnpacked(t, c, append(l, put(1<<40, "k", of(1000))), api.ErrFull)
	}
}

// P16.1: very many segments: up to numbers of three bytes, and up to the greatest one.
func TestVeryManySegments(t *testing.T) {
	expectImage(t, config(12, 16400), great(16390))
	l := great(65536)
	if n, e := image.Segments(config(12, 65536), l); n != 65536 || e != api.OK {
		t.Errorf("%d records have %d segments, %d", len(l), n, e)
	}
	l = append(l, put(1<<40, "k", of(3500)))
	if n, e := image.Segments(config(12, 65536), l); n != 0 || e != api.ErrFull {
		t.Errorf("%d records have %d segments, %d", len(l), n, e)
	}
}

// P16.1: the greatest records that may be, and the greatest segments.
func TestGreatRecords(t *testing.T) {
	most := []api.Record{put(1<<63, strings.Repeat("k", 4096), strings.Repeat("\xff", 1<<20)), gone(1<<63+1, strings.Repeat("\x00", 4096)), put(1<<63+2, "k", strings.Repeat("\x00", 1<<20))}
	expectImage(t, config(21, 2), most)
	expectImage(t, config(24, 65536), most)
	var l []api.Record
	for i := range 40 {
		l = append(l, put(uint64(i), "k", strings.Repeat(string(rune(i)), 1<<20/len(string(rune(i))))))
	}
	expectImage(t, config(24, 3), l)
	expectImage(t, config(22, 65536), l)
}

// P16.1: any records that rise.
func TestAnyRecords(t *testing.T) {
	r := rand.New(rand.NewPCG(16, 1))
	several := 0
	for range 300 {
		c := config(uint8(12+r.IntN(3)), uint32(300+r.IntN(65000)))
		l := anyRecords(r, r.IntN(300), 1+r.IntN(1500))
		if len(expectImage(t, c, l)) > 2*sizeOf(c) {
			several++
		}
	}
	if several < 50 {
		t.Errorf("just %d images have more than two segments", several)
	}
}

// P16.1: values and keys that hold heads, frames and whole images: they aren't looked into.
func TestImagesWithinValues(t *testing.T) {
	c := config(14, 3)
	inner := expectImage(t, config(12, 3), great(2))
	expectImage(t, c, []api.Record{put(1, string(headOf(c, 0)), string(inner)), put(2, string(recordOf(gone(1, "k"))), string(inner)), put(3, "k", string(inner))})
}
