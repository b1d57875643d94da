package decode_test

import (
	"bytes"
	"encoding/binary"
	"fmt"
	"math/rand/v2"
	"slices"
	"strings"
	"testing"

	"fascicle/api"
	"fascicle/decode"
	"fascicle/frame"
	"fascicle/image"
	"fascicle/segment"
	"fascicle/table"
)

// The model takes whatever records stand between noughts, lays the only bytes that they can have, and holds these against those that are asked; it uses nothing of the packages decode, image, segment, pack and footer.

// config gives a config.
func config(exp uint8, segments uint32) api.Config {
	return api.Config{Exp: exp, Segments: segments}
}

// put gives a record.
func put(seq uint64, key, value string) api.Record {
	return api.Record{Seq: seq, Key: key, Value: value}
}

// gone gives a record that is deleted.
func gone(seq uint64, key string) api.Record {
	return api.Record{Delete: true, Seq: seq, Key: key}
}

// of gives a text of n bytes.
func of(n int) string {
	return strings.Repeat("v", n)
}

// sizeOf gives the bytes of a segment.
func sizeOf(c api.Config) int {
	return 1 << c.Exp
}

// headOf gives the frame of a head that may be.
func headOf(c api.Config, number uint32) []byte {
	b, e := frame.PutHead(c, number)
	if e != api.OK {
		panic(fmt.Sprintf("no head of %v, %d: %d", c, number, e))
	}
	return b
}

// recordOf gives the frame of a record that may be.
func recordOf(r api.Record) []byte {
	b, e := frame.PutRecord(r)
	if e != api.OK {
		panic(fmt.Sprintf("no frame of record %d: %d", r.Seq, e))
	}
	return b
}

// mostOf works out how many bytes the frame of a footer of n entries has at most: its body, the sum, a byte more for each 254 of them by the stuffing, and a nought.
func mostOf(n int) int {
	plain := 1 + 4 + 4 + 12*n + 8*((n+15)/16) + 8
	return plain + (plain+253)/254 + 1
}

// footOf gives the frame of the footer of records whose frames begin at these places, that may be or not.
func footOf(used int, l []api.Record, at []uint32) []byte {
	type entry struct {
		hash uint64
		at   uint32
	}
	var entries []entry
	for i, r := range l {
		entries = append(entries, entry{table.Hash(r.Key), at[i]})
	}
	slices.SortStableFunc(entries, func(a, b entry) int { // stands by At already
		switch {
		case a.hash < b.hash:
			return -1
		case a.hash > b.hash:
			return 1
		}
		return 0
	})
	b := []byte{4}
	b = binary.LittleEndian.AppendUint32(b, uint32(len(l)))
	b = binary.LittleEndian.AppendUint32(b, uint32(used))
	for _, x := range entries {
		b = binary.LittleEndian.AppendUint64(b, x.hash)
		b = binary.LittleEndian.AppendUint32(b, x.at)
	}
	for i := 0; i < len(entries); i += 16 {
		b = binary.LittleEndian.AppendUint64(b, entries[i].hash)
	}
	return frame.Seal(b)
}

// laid is a segment that is laid record by record, whether they fit or not.
type laid struct {
	c      api.Config
	frames []byte
	l      []api.Record
	at     []uint32
}

// begun gives a segment without records.
func begun(c api.Config, number uint32) laid {
	return laid{c: c, frames: headOf(c, number)}
}

// lay gives a segment with records.
func lay(c api.Config, number uint32, l []api.Record) laid {
	x := begun(c, number)
	for _, r := range l {
		x.add(r)
	}
	return x
}

// add lays a record more.
func (x *laid) add(r api.Record) {
	x.l, x.at = append(x.l, r), append(x.at, uint32(len(x.frames)))
	x.frames = append(x.frames, recordOf(r)...)
}

// open gives the whole segment, not sealed.
func (x laid) open() []byte {
	return x.fill(nil)
}

// sealed gives the whole segment, sealed.
func (x laid) sealed() []byte {
	return x.fill(footOf(len(x.frames), x.l, x.at))
}

// fill gives the whole segment, or more bytes, if it has more.
func (x laid) fill(foot []byte) []byte {
	b := slices.Concat(x.frames, foot)
	return append(b, bytes.Repeat([]byte{255}, max(sizeOf(x.c)-len(b), 0))...)
}

// view gives what the segment has.
func (x laid) view(sealed bool) segment.View {
	return segment.View{Records: x.l, At: x.at, Used: uint32(len(x.frames)), Sealed: sealed}
}

// room works out whether a frame of so many bytes fits.
func (x laid) room(size int) bool {
	return len(x.frames)+size+mostOf(len(x.l)+1) <= sizeOf(x.c)
}

// mayBe: may the config be?
func mayBe(c api.Config) bool {
	return c.Exp >= 12 && c.Exp <= 24 && c.Segments >= 1 && c.Segments <= 65536
}

// count works out Count's error of so many bytes.
func count(c api.Config, n int) api.Errno {
	switch {
	case !mayBe(c):
		return api.ErrArg
	case n > sizeOf(c)*int(c.Segments):
		return api.ErrFull
	case n%sizeOf(c) != 0:
		return api.ErrForm
	}
	return api.OK
}

// found gives the records that stand between noughts.
func found(b []byte) []api.Record {
	var l []api.Record
	for {
		n := bytes.IndexByte(b, 0)
		if n < 0 {
			return l
		}
		if r, e := frame.GetRecord(b[:n]); e == api.OK {
			l = append(l, r)
		}
		b = b[n+1:]
	}
}

// encoded works out the image of records that may be; false: there is none.
func encoded(c api.Config, l []api.Record) ([]byte, bool) {
	if len(l) == 0 {
		return nil, true
	}
	var all []byte
	number := uint32(0)
	x := begun(c, number)
	for i, r := range l {
		size := len(recordOf(r))
		if i > 0 && l[i-1].Seq >= r.Seq || len(headOf(c, c.Segments-1))+size+mostOf(1) > sizeOf(c) {
			return nil, false
		}
		if !x.room(size) {
			if number++; number == c.Segments {
				return nil, false
			}
			all = append(all, x.sealed()...)
			x = begun(c, number)
		}
		x.add(r)
	}
	return append(all, x.open()...), true
}

// model is what bytes come to: the records, and each segment's view; or why there are none.
type model struct {
	l      []api.Record
	e      api.Errno
	views  []segment.View
	eViews api.Errno
}

// modelOf works out what bytes come to.
func modelOf(c api.Config, b []byte) model {
	if e := count(c, len(b)); e != api.OK {
		return model{e: e, eViews: e}
	}
	var m model
	m.views, m.eViews = viewsOf(c, b)
	l := found(b)
	if want, ok := encoded(c, l); !ok || !bytes.Equal(b, want) {
		m.e = api.ErrForm
		return m
	}
	m.l = l
	return m
}

// viewsOf works out the views of whole segments: each has the records that are found in it, and is sealed or not, or it is none.
func viewsOf(c api.Config, b []byte) ([]segment.View, api.Errno) {
	var views []segment.View
	for number := range uint32(len(b) / sizeOf(c)) {
		piece := b[int(number)*sizeOf(c):][:sizeOf(c)]
		x := lay(c, number, found(piece))
		switch {
		case bytes.Equal(piece, x.open()):
			views = append(views, x.view(false))
		case len(x.l) > 0 && bytes.Equal(piece, x.sealed()):
			views = append(views, x.view(true))
		default:
			return nil, api.ErrForm
		}
	}
	return views, api.OK
}

// sameView: are both the same?
func sameView(a, b segment.View) bool {
	return slices.Equal(a.Records, b.Records) && slices.Equal(a.At, b.At) && a.Used == b.Used && a.Sealed == b.Sealed
}

// tell tells records, or how they begin.
func tell(l []api.Record) string {
	var text strings.Builder
	for _, r := range l[:min(len(l), 4)] {
		fmt.Fprintf(&text, "(%v %d %.10q %d bytes) ", r.Delete, r.Seq, r.Key, len(r.Value))
	}
	return fmt.Sprintf("%s%d in all", text.String(), len(l))
}

// tellViews tells views.
func tellViews(views []segment.View) string {
	var text strings.Builder
	for _, v := range views {
		fmt.Fprintf(&text, "[%s, at %v, used %d, sealed %t] ", tell(v.Records), v.At, v.Used, v.Sealed)
	}
	return text.String()
}

// answers is all that is told of bytes.
type answers struct {
	l      []api.Record
	e      api.Errno
	is     bool
	views  []segment.View
	eViews api.Errno
}

// ask asks for all of them.
func ask(c api.Config, b []byte) answers {
	var x answers
	x.l, x.e = decode.Decode(c, b)
	x.is = decode.Is(c, b)
	x.views, x.eViews = decode.Views(c, b)
	return x
}

// expectAnswers holds all that was told against what it ought to be.
func expectAnswers(t *testing.T, what string, got answers, want model) {
	t.Helper()
	if got.e != want.e || !slices.Equal(got.l, want.l) {
		t.Errorf("%s: Decode tells %s, %d; it ought to be %s, %d", what, tell(got.l), got.e, tell(want.l), want.e)
	}
	if got.is != (want.e == api.OK) {
		t.Errorf("%s: Is tells %t; Decode ought to tell %d", what, got.is, want.e)
	}
	if got.eViews != want.eViews || !slices.EqualFunc(got.views, want.views, sameView) {
		t.Errorf("%s: Views tells %s, %d; it ought to be %s, %d", what, tellViews(got.views), got.eViews, tellViews(want.views), want.eViews)
	}
}

// expect holds all that is told of bytes against the model, and against what the layers below tell of them.
func expect(t *testing.T, what string, c api.Config, b []byte) answers {
	t.Helper()
	x := ask(c, b)
	expectAnswers(t, what, x, modelOf(c, b))
	expectParsed(t, what, c, b, x)
	if again, e := image.Encode(c, x.l); x.e == api.OK && (e != api.OK || !bytes.Equal(again, b)) {
		t.Errorf("%s: %s were decoded, but they have another image, %d", what, tell(x.l), e)
	}
	return x
}

// expectParsed holds Views against Parse (chapter 15) of each segment.
func expectParsed(t *testing.T, what string, c api.Config, b []byte, x answers) {
	t.Helper()
	if count(c, len(b)) != api.OK {
		return
	}
	all := true
	for i := range len(b) / sizeOf(c) {
		v, e := segment.Parse(c, uint32(i), b[i*sizeOf(c):][:sizeOf(c)])
		all = all && e == api.OK
		if x.eViews == api.OK && (e != api.OK || !sameView(x.views[i], v)) {
			t.Errorf("%s: Views tells of segment %d %s; Parse tells %s, %d", what, i, tellViews(x.views[i:i+1]), tellViews([]segment.View{v}), e)
		}
	}
	if all != (x.eViews == api.OK) {
		t.Errorf("%s: Views tells %d; that Parse takes all segments is %t", what, x.eViews, all)
	}
}

// expectImage holds all that is told of bytes against the records whose image they are.
func expectImage(t *testing.T, what string, c api.Config, b []byte, l []api.Record) {
	t.Helper()
	x := expect(t, what, c, b)
	if x.e != api.OK || !slices.Equal(x.l, l) || !x.is {
		t.Errorf("%s: Decode by %v tells %s, %d, Is %t; it is the image of %s", what, c, tell(x.l), x.e, x.is, tell(l))
	}
	var all []api.Record
	for i, v := range x.views {
		all = append(all, v.Records...)
		if v.Sealed != (i < len(x.views)-1) || len(v.Records) == 0 {
			t.Errorf("%s: segment %d of %d has %d records, and is sealed: %t", what, i, len(x.views), len(v.Records), v.Sealed)
		}
	}
	if x.eViews != api.OK || len(x.views) != len(b)/sizeOf(c) || !slices.Equal(all, l) {
		t.Errorf("%s: Views by %v tells %s, %d, of %s", what, c, tellViews(x.views), x.eViews, tell(l))
	}
}

// expectError holds all that is told of bytes against an error, beside which there is nothing.
func expectError(t *testing.T, what string, c api.Config, b []byte, want api.Errno) {
	t.Helper()
	x := expect(t, what, c, b)
	if x.e != want || x.l != nil || x.is || x.eViews != want || x.views != nil {
		t.Errorf("%s: by %v of %d bytes Decode tells %s, %d, Is %t, Views %s, %d; it ought to be error %d", what, c, len(b), tell(x.l), x.e, x.is, tellViews(x.views), x.eViews, want)
	}
}

// expectSegments: the bytes are segments that have these views, but they are no records' image.
func expectSegments(t *testing.T, what string, c api.Config, b []byte, want ...segment.View) {
	t.Helper()
	x := expect(t, what, c, b)
	if x.e != api.ErrForm || x.l != nil || x.is {
		t.Errorf("%s: Decode by %v tells %s, %d, Is %t; it is no image", what, c, tell(x.l), x.e, x.is)
	}
	if x.eViews != api.OK || !slices.EqualFunc(x.views, want, sameView) {
		t.Errorf("%s: Views by %v tells %s, %d; it ought to be %s", what, c, tellViews(x.views), x.eViews, tellViews(want))
	}
}

// encode gives the image of records that have one.
func encode(t *testing.T, c api.Config, l []api.Record) []byte {
	t.Helper()
	b, e := image.Encode(c, l)
	if e != api.OK {
		t.Fatalf("by %v %s have no image: %d", c, tell(l), e)
	}
	return b
}

// part gives a segment's bytes.
func part(c api.Config, b []byte, i int) []byte {
	return b[i*sizeOf(c):][:sizeOf(c)]
}

// parts gives all segments' bytes, each in memory of its own.
func parts(c api.Config, b []byte) [][]byte {
	var l [][]byte
	for i := range len(b) / sizeOf(c) {
		l = append(l, bytes.Clone(part(c, b, i)))
	}
	return l
}

// exact gives a record whose frame has just so many bytes.
func exact(t *testing.T, seq uint64, size int) api.Record {
	t.Helper()
	for _, key := range []string{"k", "kk", "kkk"} {
		least := max(size-size/254-50, 0) // a byte of each 255 is the stuffing's
		for n := range 60 {
			r := put(seq, key, of(least+n))
			if len(recordOf(r)) == size {
				return r
			}
		}
	}
	t.Fatalf("no record's frame has %d bytes", size)
	return api.Record{}
}

// many gives n small records that rise, of as many keys.
func many(n int) []api.Record {
	var l []api.Record
	for i := range n {
		l = append(l, put(uint64(i+1), fmt.Sprint("key ", i), fmt.Sprint(i)))
	}
	return l
}

// great gives n records that rise, one of which fills a segment by Exp 12.
func great(n int) []api.Record {
	value := of(3500)
	var l []api.Record
	for i := range n {
		l = append(l, put(uint64(i+1), "k", value))
	}
	return l
}

// rising gives n records that rise, of few keys, some of them deleted.
func rising(r *rand.Rand, n, most int) []api.Record {
	var l []api.Record
	seq, step := uint64(r.IntN(3)), uint64(1)<<r.IntN(40)
	for range n {
		x := put(seq, text(r, 1+r.IntN(3)), text(r, r.IntN(most)))
		if r.IntN(4) == 0 {
			x.Delete, x.Value = true, ""
		}
		l = append(l, x)
		seq += 1 + r.Uint64N(step)
	}
	return l
}

// text gives n bytes, many of them noughts, Erased, or the same.
func text(r *rand.Rand, n int) string {
	b := make([]byte, n)
	few := []byte{0, 255, 1, byte(r.IntN(256)), byte(r.IntN(256))}
	for i := range b {
		b[i] = few[r.IntN(len(few))]
	}
	return string(b)
}

// three gives a config and records whose image has three segments, each with several records.
func three() (api.Config, []api.Record) {
	l := []api.Record{
		put(1, "a", of(1200)), put(2, "b", ""), gone(3, "a"), put(5, "c", of(1200)), put(8, "d\x00", strings.Repeat("\x00", 1100)),
		put(9, "a", of(2000)), put(70, "\xff", strings.Repeat("\xff", 1700)), gone(71, "c"),
		put(1<<40, "e", of(2500)), gone(1<<41, "e"), put(1<<63, "a", "last"),
	}
	return config(12, 5), l
}
