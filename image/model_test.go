package image_test

import (
	"bytes"
	"encoding/binary"
	"fmt"
	"math"
	"math/rand/v2"
	"slices"
	"strings"
	"testing"

	"fascicle/api"
	"fascicle/frame"
	"fascicle/image"
	"fascicle/pack"
	"fascicle/segment"
	"fascicle/table"
)

// The model goes record by record with sums of its own, and lays heads, frames and footers one behind the other, with nothing of the packages image, segment, pack and footer.

// config gives a config.
func config(exp uint8, segments uint32) api.Config {
	return api.Config{Exp: exp, Segments: segments}
}

// put gives a record.
func put(seq uint64, key, value string) api.Record {
	return api.Record{Seq: seq, Key: key, Value: value}
}

// gone gives a record that is deleted.
func gone(seq uint64, key string) api.Record {
	return api.Record{Delete: true, Seq: seq, Key: key}
}

// of gives a text of n bytes.
func of(n int) string {
	return strings.Repeat("v", n)
}

// sizeOf gives the bytes of a segment.
func sizeOf(c api.Config) int {
	return 1 << c.Exp
}

// headOf gives the frame of a head that may be.
func headOf(c api.Config, number uint32) []byte {
	b, e := frame.PutHead(c, number)
	if e != api.OK {
		panic(fmt.Sprintf("no head of %v, %d: %d", c, number, e))
	}
	return b
}

// recordOf gives the frame of a record that may be.
func recordOf(r api.Record) []byte {
	b, e := frame.PutRecord(r)
	if e != api.OK {
		panic(fmt.Sprintf("no frame of record %d: %d", r.Seq, e))
	}
	return b
}

// mostOf works out how many bytes the frame of a footer of n entries has at most: its body, the sum, a byte more for each 254 of them by the stuffing, and a nought.
func mostOf(n int) int {
	plain := 1 + 4 + 4 + 12*n + 8*((n+15)/16) + 8
	return plain + (plain+253)/254 + 1
}

// footOf gives the frame of the footer of records whose frames begin at these places.
func footOf(used int, l []api.Record, at []uint32) []byte {
	type entry struct {
		hash uint64
		at   uint32
	}
	var entries []entry
	for i, r := range l {
		entries = append(entries, entry{table.Hash(r.Key), at[i]})
	}
	slices.SortStableFunc(entries, func(a, b entry) int { // stands by At already
		switch {
		case a.hash < b.hash:
			return -1
		case a.hash > b.hash:
			return 1
		}
		return 0
	})
	b := []byte{4}
	b = binary.LittleEndian.AppendUint32(b, uint32(len(l)))
	b = binary.LittleEndian.AppendUint32(b, uint32(used))
	for _, x := range entries {
		b = binary.LittleEndian.AppendUint64(b, x.hash)
		b = binary.LittleEndian.AppendUint32(b, x.at)
	}
	for i := 0; i < len(entries); i += 16 {
		b = binary.LittleEndian.AppendUint64(b, entries[i].hash)
	}
	return frame.Seal(b)
}

// model is what records come to: the image, their places and how many segments, or why there is none.
type model struct {
	bytes    []byte
	places   []image.Place
	segments uint32
	e        api.Errno
}

// laid is the segment that is laid just now.
type laid struct {
	number uint32
	frames []byte
	l      []api.Record
	at     []uint32
}

// check works out the error of records that have no image, whatever their frames are.
func check(c api.Config, l []api.Record) api.Errno {
	if c.Exp < 12 || c.Exp > 24 || c.Segments < 1 || c.Segments > 65536 {
		return api.ErrArg
	}
	for _, r := range l {
		switch {
		case r.Key == "":
			return api.ErrForm
		case len(r.Key) > 4096:
			return api.ErrLong
		case r.Delete && r.Value != "":
			return api.ErrForm
		case len(r.Value) > 1<<20:
			return api.ErrLong
		}
	}
	for i := range l {
		if i > 0 && l[i-1].Seq >= l[i].Seq {
			return api.ErrOrder
		}
	}
	return api.OK
}

// modelOf works out what records come to.
func modelOf(c api.Config, l []api.Record) model {
	if e := check(c, l); e != api.OK {
		return model{e: e}
	}
	if len(l) == 0 {
		return model{}
	}
	var m model
	x := laid{frames: headOf(c, 0)}
	for _, r := range l {
		piece := recordOf(r)
		if len(headOf(c, c.Segments-1))+len(piece)+mostOf(1) > sizeOf(c) {
			return model{e: api.ErrTooLarge}
		}
		if len(x.frames)+len(piece)+mostOf(len(x.l)+1) > sizeOf(c) {
			if x.number == c.Segments-1 {
				return model{e: api.ErrFull}
			}
			m.bytes = append(m.bytes, x.fill(c, footOf(len(x.frames), x.l, x.at))...)
			x = laid{number: x.number + 1, frames: headOf(c, x.number+1)}
		}
		m.places = append(m.places, image.Place{Segment: x.number, At: uint32(len(x.frames))})
		x.l, x.at = append(x.l, r), append(x.at, uint32(len(x.frames)))
		x.frames = append(x.frames, piece...)
	}
	m.bytes = append(m.bytes, x.fill(c, nil)...)
	m.segments = x.number + 1
	return m
}

// fill gives the whole segment.
func (x laid) fill(c api.Config, foot []byte) []byte {
	b := append(bytes.Clone(x.frames), foot...)
	return append(b, bytes.Repeat([]byte{255}, sizeOf(c)-len(b))...)
}

// tell tells records, or how they begin.
func tell(l []api.Record) string {
	var text strings.Builder
	for _, r := range l[:min(len(l), 4)] {
		fmt.Fprintf(&text, "(%v %d %.10q %d bytes) ", r.Delete, r.Seq, r.Key, len(r.Value))
	}
	return fmt.Sprintf("%s%d in all", text.String(), len(l))
}

// differ tells where bytes differ first.
func differ(a, b []byte) string {
	at := 0
	for at < min(len(a), len(b)) && a[at] == b[at] {
		at++
	}
	return fmt.Sprintf("%d and %d bytes, unlike from %d on", len(a), len(b), at)
}

// expectImage holds Encode, Places and Segments against the model, and against chapters 14 and 15, and tells the image.
func expectImage(t *testing.T, c api.Config, l []api.Record) []byte {
	t.Helper()
	want := modelOf(c, l)
	if want.e != api.OK {
		t.Fatalf("by %v %s have no image: %d", c, tell(l), want.e)
	}
	b, e := image.Encode(c, l)
	if e != api.OK || !bytes.Equal(b, want.bytes) {
		t.Errorf("Encode by %v of %s: %d, %s", c, tell(l), e, differ(b, want.bytes))
	}
	places, e := image.Places(c, l)
	if e != api.OK || !slices.Equal(places, want.places) {
		t.Errorf("Places by %v of %s: %v, %d; they ought to be %v", c, tell(l), places[:min(len(places), 20)], e, want.places[:min(len(l), 20)])
	}
	n, e := image.Segments(c, l)
	if e != api.OK || n != want.segments || int(n)*sizeOf(c) != len(b) {
		t.Errorf("Segments by %v of %s: %d, %d; it ought to be %d, of %d bytes", c, tell(l), n, e, want.segments, len(b))
	}
	if len(b) != len(want.bytes) || len(places) != len(l) {
		t.FailNow() // what follows goes by them
	}
	expectPlan(t, c, l, places)
	expectFrames(t, c, l, places, b)
	expectSegments(t, c, l, places, b)
	return b
}

// expectPlan holds the segments of records against Plan (chapter 14) of their frames.
func expectPlan(t *testing.T, c api.Config, l []api.Record, places []image.Place) {
	t.Helper()
	numbers, e := planOf(c, l)
	if e != api.OK || len(numbers) != len(l) {
		t.Fatalf("Plan by %v of %s: %d numbers, %d", c, tell(l), len(numbers), e)
	}
	for i, x := range places {
		if x.Segment != numbers[i] {
			t.Errorf("record %d of %s stands in segment %d; Plan says %d", i, tell(l), x.Segment, numbers[i])
		}
	}
}

// planOf asks Plan of the frames of records.
func planOf(c api.Config, l []api.Record) ([]uint32, api.Errno) {
	var sizes []int
	for _, r := range l {
		sizes = append(sizes, len(recordOf(r)))
	}
	return pack.Plan(c, sizes)
}

// expectFrames: each record's frame stands at its place.
func expectFrames(t *testing.T, c api.Config, l []api.Record, places []image.Place, b []byte) {
	t.Helper()
	for i, x := range places {
		at := int(x.Segment)*sizeOf(c) + int(x.At)
		if int(x.At) >= sizeOf(c) || !bytes.HasPrefix(b[at:], recordOf(l[i])) {
			t.Errorf("the frame of record %d of %s doesn't stand at %v", i, tell(l), x)
		}
	}
}

// expectSegments holds each segment against chapter 15: what is built of its records, and what is parsed; all are sealed but the last one.
func expectSegments(t *testing.T, c api.Config, l []api.Record, places []image.Place, b []byte) {
	t.Helper()
	from := 0
	for number := range uint32(len(b) / sizeOf(c)) {
		to := from
		for to < len(l) && places[to].Segment == number {
			to++
		}
		piece := b[int(number)*sizeOf(c):][:sizeOf(c)]
		last := to == len(l)
		if want := builtOf(t, c, number, l[from:to], last); !bytes.Equal(piece, want) {
			t.Errorf("segment %d by %v of %s: %s", number, c, tell(l), differ(piece, want))
		}
		v, e := segment.Parse(c, number, piece)
		if e != api.OK || !slices.Equal(v.Records, l[from:to]) || v.Sealed == last || from == to {
			t.Errorf("segment %d by %v of %s has %d records, sealed %t, %d", number, c, tell(l), len(v.Records), v.Sealed, e)
		}
		from = to
	}
	if from != len(l) {
		t.Errorf("%d records of %s stand in no segment", len(l)-from, tell(l))
	}
}

// builtOf builds a segment by chapter 15.
func builtOf(t *testing.T, c api.Config, number uint32, l []api.Record, last bool) []byte {
	t.Helper()
	x, e := segment.New(c, number)
	if e != api.OK {
		t.Fatalf("New of %v, %d: %d", c, number, e)
	}
	for _, r := range l {
		if _, e := x.Add(r); e != api.OK {
			t.Fatalf("Add of %s into %v: %d", tell([]api.Record{r}), x.Room(), e)
		}
	}
	if last {
		return x.Open()
	}
	b, e := x.Seal()
	if e != api.OK {
		t.Fatalf("Seal of %s: %d", tell(l), e)
	}
	return b
}

// expectNone holds Encode, Places and Segments against an error, beside which there is nothing; the model, too.
func expectNone(t *testing.T, c api.Config, l []api.Record, want api.Errno) {
	t.Helper()
	if b, e := image.Encode(c, l); e != want || b != nil {
		t.Errorf("Encode by %v of %s: %d bytes, %d; it ought to be error %d", c, tell(l), len(b), e, want)
	}
	if places, e := image.Places(c, l); e != want || places != nil {
		t.Errorf("Places by %v of %s: %d places, %d; it ought to be error %d", c, tell(l), len(places), e, want)
	}
	if n, e := image.Segments(c, l); e != want || n != 0 {
		t.Errorf("Segments by %v of %s: %d, %d; it ought to be error %d", c, tell(l), n, e, want)
	}
	if m := modelOf(c, l); m.e != want {
		t.Errorf("the model tells %d by %v of %s; it ought to be %d", m.e, c, tell(l), want)
	}
}

// expectUnpacked holds all against Plan's error (chapter 14).
func expectUnpacked(t *testing.T, c api.Config, l []api.Record, want api.Errno) {
	t.Helper()
	if _, e := planOf(c, l); e != want {
		t.Errorf("Plan by %v of %s tells %d; it ought to be %d", c, tell(l), e, want)
	}
	expectNone(t, c, l, want)
}

// exact gives a record whose frame has just so many bytes.
func exact(t *testing.T, seq uint64, size int) api.Record {
	t.Helper()
	for _, key := range []string{"k", "kk", "kkk"} {
		least := max(size-size/254-50, 0) // a byte of each 255 is the stuffing's
		for n := range 60 {
			r := put(seq, key, of(least+n))
			if len(recordOf(r)) == size {
				return r
			}
		}
	}
	t.Fatalf("no record's frame has %d bytes", size)
	return api.Record{}
}

// frames gives records, rising from a Seq on, whose frames have just so many bytes.
func frames(t *testing.T, seq uint64, sizes ...int) []api.Record {
	t.Helper()
	var l []api.Record
	for i, size := range sizes {
		l = append(l, exact(t, seq+uint64(i), size))
	}
	return l
}

// many gives n small records that rise, of as many keys.
func many(n int) []api.Record {
	var l []api.Record
	for i := range n {
		l = append(l, put(uint64(i+1), fmt.Sprint("key ", i), fmt.Sprint(i)))
	}
	return l
}

// great gives n records that rise, one of which fills a segment by Exp 12.
func great(n int) []api.Record {
	value := of(3500)
	var l []api.Record
	for i := range n {
		l = append(l, put(uint64(i+1), "k", value))
	}
	return l
}

// anyRecords gives n records that rise, of few keys, some of them deleted.
func anyRecords(r *rand.Rand, n, most int) []api.Record {
	var l []api.Record
	seq, step := uint64(r.IntN(3)), uint64(1)<<r.IntN(40)
	for range n {
		x := put(seq, text(r, 1+r.IntN(3)), text(r, r.IntN(most)))
		if r.IntN(4) == 0 {
			x.Delete, x.Value = true, ""
		}
		l = append(l, x)
		seq += 1 + r.Uint64N(step)
	}
	return l
}

// text gives n bytes, many of them noughts, Erased, or the same.
func text(r *rand.Rand, n int) string {
	b := make([]byte, n)
	few := []byte{0, 255, 1, byte(r.IntN(256)), byte(r.IntN(256))}
	for i := range b {
		b[i] = few[r.IntN(len(few))]
	}
	return string(b)
}

// rows are rows of records that have an image by each of configs: some of them go into several segments.
func rows() [][]api.Record {
	l := [][]api.Record{
		nil,
		{},
		{put(1, "a", "b")},
		{gone(1, "a")},
		{put(0, "a", "")},
		{put(math.MaxUint64, "a", "")},
		{put(0, "a", "x"), put(math.MaxUint64, "a", "y")},
		{put(1, "a", "1"), put(2, "a", "2"), put(3, "a", "1"), gone(4, "a"), gone(5, "a")},
		{put(1, "a", "x"), put(2, "b", strings.Repeat("\x00", 900)), gone(3, "a")},
		{put(1, "\x00", "\x00"), put(2, "\xff", "\xff"), put(3, "\xff\x00", strings.Repeat("\xff", 1000)), put(4, "\x00\x00", strings.Repeat("\x00\xff", 500))},
		{put(7, strings.Repeat("k", 3900), "v"), put(8, "v", of(3900)), gone(9, strings.Repeat("k", 3900))},
		{put(1, "a", of(3000)), put(2, "b", of(3000)), put(3, "c", of(1000)), put(4, "d", ""), gone(5, "a")},
		{put(5, "a", of(252)), put(50, "b", of(253)), put(500, "c", of(254)), put(5000, "d", of(3900)), put(50000, "e", "f")},
	}
	for _, n := range []int{2, 15, 16, 17, 18, 33, 70, 140, 141, 142, 143, 200} {
		l = append(l, many(n))
	}
	for _, n := range []int{2, 3, 4} {
		l = append(l, great(n))
	}
	return l
}

// configs are some by which each of rows has an image.
func configs() []api.Config {
	return []api.Config{config(12, 5), config(12, 128), config(12, 300), config(12, 65536), config(13, 4), config(14, 20000), config(16, 1), config(16, 65536)}
}

// wrong are configs that may not be.
func wrong() []api.Config {
	return []api.Config{
		{}, config(0, 1), config(0, 65536), config(11, 1), config(11, 65536), config(25, 1), config(25, 65536), config(63, 1), config(64, 1), config(76, 1), config(255, math.MaxUint32),
		config(12, 0), config(12, 65537), config(12, 1<<31), config(12, math.MaxUint32), config(24, 0), config(24, 65537), config(24, math.MaxUint32),
	}
}
