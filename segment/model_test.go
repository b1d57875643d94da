package segment_test

import (
	"bytes"
	"encoding/binary"
	"fmt"
	"math"
	"math/rand/v2"
	"slices"
	"strings"
	"testing"

	"fascicle/api"
	"fascicle/footer"
	"fascicle/frame"
	"fascicle/segment"
	"fascicle/table"
)

// The model lays frames of the chapters below one behind the other, and reads a segment from its end on, with nothing of the package that is tested.

// config gives a config.
func config(exp uint8, segments uint32) api.Config {
	return api.Config{Exp: exp, Segments: segments}
}

// put gives a record.
func put(seq uint64, key, value string) api.Record {
	return api.Record{Seq: seq, Key: key, Value: value}
}

// gone gives a record that is deleted.
func gone(seq uint64, key string) api.Record {
	return api.Record{Delete: true, Seq: seq, Key: key}
}

// sizeOf gives the bytes of a segment.
func sizeOf(c api.Config) int {
	return 1 << c.Exp
}

// join puts pieces one behind the other.
func join(pieces ...[]byte) []byte {
	return bytes.Join(pieces, nil)
}

// headOf gives the frame of a head that may be.
func headOf(c api.Config, number uint32) []byte {
	b, e := frame.PutHead(c, number)
	if e != api.OK {
		panic(fmt.Sprintf("no head of %v, %d: %d", c, number, e))
	}
	return b
}

// recordOf gives the frame of a record that may be.
func recordOf(r api.Record) []byte {
	b, e := frame.PutRecord(r)
	if e != api.OK {
		panic(fmt.Sprintf("no frame of record %d: %d", r.Seq, e))
	}
	return b
}

// footBody gives the body of a footer of these entries, in this order, whether or not it may be.
func footBody(used uint32, l []table.Entry) []byte {
	b := []byte{4}
	b = binary.LittleEndian.AppendUint32(b, uint32(len(l)))
	b = binary.LittleEndian.AppendUint32(b, used)
	var fences []byte
	for i, x := range l {
		b = binary.LittleEndian.AppendUint64(b, x.Hash)
		b = binary.LittleEndian.AppendUint32(b, x.At)
		if i%16 == 0 {
			fences = binary.LittleEndian.AppendUint64(fences, x.Hash)
		}
	}
	return append(b, fences...)
}

// entriesOf gives the entries of records, sorted by going through those that are there already.
func entriesOf(l []api.Record, at []uint32) []table.Entry {
	var entries []table.Entry
	for i, r := range l {
		x := table.Entry{Hash: table.Hash(r.Key), At: at[i]}
		place := 0
		for place < len(entries) && (entries[place].Hash < x.Hash || entries[place].Hash == x.Hash && entries[place].At < x.At) {
			place++
		}
		entries = slices.Insert(entries, place, x)
	}
	return entries
}

// laid is what a segment of records ought to be.
type laid struct {
	at           []uint32
	frames, foot []byte
}

// lay lays the frames of records.
func lay(c api.Config, number uint32, l []api.Record) laid {
	x := laid{frames: headOf(c, number)}
	for _, r := range l {
		x.at = append(x.at, uint32(len(x.frames)))
		x.frames = append(x.frames, recordOf(r)...)
	}
	x.foot = frame.Seal(footBody(uint32(len(x.frames)), entriesOf(l, x.at)))
	return x
}

// whole puts pieces one behind the other and fills the segment up.
func whole(c api.Config, pieces ...[]byte) []byte {
	b := join(pieces...)
	return append(b, bytes.Repeat([]byte{255}, max(sizeOf(c)-len(b), 0))...)
}

// openOf gives the segment of records, not sealed.
func openOf(c api.Config, number uint32, l []api.Record) []byte {
	return whole(c, lay(c, number, l).frames)
}

// sealedOf gives the segment of records, sealed.
func sealedOf(c api.Config, number uint32, l []api.Record) []byte {
	x := lay(c, number, l)
	return whole(c, x.frames, x.foot)
}

// viewOf gives what a segment of records has.
func viewOf(c api.Config, number uint32, l []api.Record, sealed bool) segment.View {
	x := lay(c, number, l)
	return segment.View{Records: l, At: x.at, Used: uint32(len(x.frames)), Sealed: sealed}
}

// parsed works out what Parse ought to tell: the last nought is sought, and what stands ahead of it is parted at all others.
func parsed(c api.Config, number uint32, b []byte) (segment.View, api.Errno) {
	if c.Exp < 12 || c.Exp > 24 || c.Segments < 1 || c.Segments > 65536 || number >= c.Segments {
		return segment.View{}, api.ErrArg
	}
	end := len(b)
	for end > 0 && b[end-1] == 255 {
		end--
	}
	if len(b) != sizeOf(c) || end == 0 || b[end-1] != 0 {
		return segment.View{}, api.ErrForm
	}
	pieces := bytes.Split(b[:end-1], []byte{0})
	if !bytes.Equal(append(pieces[0], 0), headOf(c, number)) {
		return segment.View{}, api.ErrForm
	}
	at := len(pieces[0]) + 1
	var v segment.View
	for i, chunk := range pieces[1:] {
		r, e := frame.GetRecord(chunk)
		if e != api.OK {
			v.Used, v.Sealed = uint32(at), true
			if i != len(pieces)-2 || !isFoot(v, chunk) {
				return segment.View{}, api.ErrForm
			}
			return v, api.OK
		}
		v.Records, v.At = append(v.Records, r), append(v.At, uint32(at))
		at += len(chunk) + 1
	}
	v.Used = uint32(at)
	return v, api.OK
}

// isFoot works out whether a chunk is the footer of a view, entry by entry.
func isFoot(v segment.View, chunk []byte) bool {
	f, e := footer.Get(chunk)
	if e != api.OK || f.Used != v.Used || len(f.Table) != len(v.Records) {
		return false
	}
	for i, r := range v.Records {
		if !slices.Contains(f.Table, table.Entry{Hash: table.Hash(r.Key), At: v.At[i]}) {
			return false
		}
	}
	return true
}

// same: are both views the same?
func same(a, b segment.View) bool {
	return slices.Equal(a.Records, b.Records) && slices.Equal(a.At, b.At) && a.Used == b.Used && a.Sealed == b.Sealed
}

// show tells a view, or how it begins.
func show(v segment.View) string {
	return fmt.Sprintf("%d records, at %v, Used %d, Sealed %v", len(v.Records), v.At[:min(len(v.At), 20)], v.Used, v.Sealed)
}

// tell tells records, or how they begin.
func tell(l []api.Record) string {
	var text strings.Builder
	for _, r := range l[:min(len(l), 4)] {
		fmt.Fprintf(&text, "(%v %d %.10q %d bytes) ", r.Delete, r.Seq, r.Key, len(r.Value))
	}
	return fmt.Sprintf("%s%d in all", text.String(), len(l))
}

// begin tells how bytes begin.
func begin(b []byte) string {
	return fmt.Sprintf("%v .. (%d bytes)", b[:min(len(b), 60)], len(b))
}

// differ tells where bytes differ first.
func differ(a, b []byte) string {
	at := 0
	for at < min(len(a), len(b)) && a[at] == b[at] {
		at++
	}
	return fmt.Sprintf("%d and %d bytes, unlike from %d on", len(a), len(b), at)
}

// expectBytes holds bytes against what they ought to be.
func expectBytes(t *testing.T, what string, got, want []byte) {
	t.Helper()
	if !bytes.Equal(got, want) {
		t.Errorf("%s: %s", what, differ(got, want))
	}
}

// expectView holds Parse against what it ought to tell.
func expectView(t *testing.T, c api.Config, number uint32, b []byte, want segment.View) {
	t.Helper()
	v, e := segment.Parse(c, number, b)
	if e != api.OK || !same(v, want) {
		t.Errorf("Parse by %v, %d: %s, %d; it ought to be %s", c, number, show(v), e, show(want))
	}
}

// expectNoView holds Parse against an error, beside which there is nothing, and the model, too.
func expectNoView(t *testing.T, what string, c api.Config, number uint32, b []byte, want api.Errno) {
	t.Helper()
	v, e := segment.Parse(c, number, b)
	if e != want || v.Records != nil || v.At != nil || v.Used != 0 || v.Sealed {
		t.Errorf("%s: Parse by %v, %d of %d bytes: %s, %d; it ought to be error %d", what, c, number, len(b), show(v), e, want)
	}
	if _, e := parsed(c, number, b); e != want {
		t.Errorf("%s: the model tells %d by %v, %d of %d bytes; it ought to be %d", what, e, c, number, len(b), want)
	}
}

// fresh gives a builder without records.
func fresh(t *testing.T, c api.Config, number uint32) *segment.Builder {
	t.Helper()
	b, e := segment.New(c, number)
	if e != api.OK || b == nil {
		t.Fatalf("New of %v, %d: %v, %d", c, number, b, e)
	}
	return b
}

// build gives a builder with records.
func build(t *testing.T, c api.Config, number uint32, l []api.Record) *segment.Builder {
	t.Helper()
	b := fresh(t, c, number)
	for i, r := range l {
		if _, e := b.Add(r); e != api.OK {
			t.Fatalf("Add of record %d of %s by %v, %d: %d", i, tell(l), c, number, e)
		}
	}
	return b
}

// exact gives a record whose frame has just so many bytes.
func exact(t *testing.T, seq uint64, size int) api.Record {
	t.Helper()
	for _, key := range []string{"k", "kk", "kkk"} {
		least := max(size-size/254-50, 0) // a byte of each 255 is the stuffing's
		for n := range 60 {
			n += least
			r := put(seq, key, strings.Repeat("v", n))
			if len(recordOf(r)) == size {
				return r
			}
		}
	}
	t.Fatalf("no record's frame has %d bytes", size)
	return api.Record{}
}

// many gives n small records, of as many keys.
func many(n int) []api.Record {
	var l []api.Record
	for i := range n {
		l = append(l, put(uint64(i+1), fmt.Sprint("key ", i), fmt.Sprint(i)))
	}
	return l
}

// anyRecords gives n records of few keys, of some bytes each, some of them deleted; their Seqs needn't rise.
func anyRecords(r *rand.Rand, n, most int) []api.Record {
	var l []api.Record
	for range n {
		x := put(r.Uint64()>>r.IntN(64), text(r, 1+r.IntN(3)), text(r, r.IntN(most)))
		if r.IntN(4) == 0 {
			x.Delete, x.Value = true, ""
		}
		l = append(l, x)
	}
	return l
}

// text gives n bytes, many of them noughts, Erased, or the same.
func text(r *rand.Rand, n int) string {
	b := make([]byte, n)
	few := []byte{0, 255, 1, byte(r.IntN(256)), byte(r.IntN(256))}
	for i := range b {
		b[i] = few[r.IntN(len(few))]
	}
	return string(b)
}

// rows are rows of records that fit into a segment by Exp 12.
func rows() [][]api.Record {
	l := [][]api.Record{
		{put(1, "a", "b")},
		{gone(1, "a")},
		{put(0, "a", "")},
		{put(math.MaxUint64, "a", "")},
		{put(1, "a", "x"), put(2, "b", strings.Repeat("\x00", 900)), gone(3, "a")},
		{put(1, "a", "1"), put(2, "a", "2"), put(3, "a", "1"), gone(4, "a"), gone(5, "a")},
		{put(1, "\x00", "\x00"), put(2, "\xff", "\xff"), put(3, "\xff\x00", strings.Repeat("\xff", 1000)), put(4, "\x00\x00", strings.Repeat("\x00\xff", 500))},
		{put(1, strings.Repeat("k", 3900), "v")},
		{put(1, "v", strings.Repeat("v", 3900))},
		{put(1, "a", strings.Repeat("x", 252)), put(2, "b", strings.Repeat("x", 253)), put(3, "c", strings.Repeat("x", 254)), put(4, "d", strings.Repeat("\xff", 600))},
		{put(9, "z", "1"), put(8, "y", "2"), put(8, "y", "2"), put(0, "x", "3")},
		{put(1<<14, "a", "1"), put(1<<14, "a", "1"), put(1<<14, "a", "1")},
	}
	for _, n := range []int{2, 14, 15, 16, 17, 18, 31, 32, 33, 40} {
		l = append(l, many(n))
		var one []api.Record
		for i := range n {
			one = append(one, gone(uint64(i), "the same"))
		}
		l = append(l, one)
	}
	return l
}

// heads are configs and numbers into whose segments each of rows fits.
func heads() map[api.Config]uint32 {
	return map[api.Config]uint32{config(12, 1): 0, config(12, 3): 2, config(12, 128): 127, config(12, 300): 200, config(13, 65536): 65535, config(16, 20000): 1}
}

// right are configs that may be, and numbers of them: those at the ends, and those at which a number has a byte more.
func right() map[api.Config][]uint32 {
	l := map[api.Config][]uint32{}
	for exp := uint8(12); exp <= 24; exp++ {
		for _, segments := range []uint32{1, 2, 127, 128, 129, 16384, 65535, 65536} {
			for _, number := range []uint32{0, 1, 127, 128, segments / 2, segments - 1} {
				if number < segments {
					l[config(exp, segments)] = append(l[config(exp, segments)], number)
				}
			}
		}
	}
	return l
}

// wrong are configs and numbers that may not be.
func wrong() map[api.Config][]uint32 {
	l := map[api.Config][]uint32{}
	for _, c := range []api.Config{{}, config(0, 1), config(11, 1), config(11, 65536), config(25, 1), config(25, 65536), config(64, 1), config(255, math.MaxUint32), config(12, 0), config(12, 65537), config(12, math.MaxUint32), config(24, 0), config(24, 65537)} {
		l[c] = []uint32{0, 1, c.Segments - 1, c.Segments, 65535, math.MaxUint32}
	}
	for _, c := range []api.Config{config(12, 1), config(12, 2), config(13, 128), config(24, 65535), config(24, 65536)} {
		l[c] = []uint32{c.Segments, c.Segments + 1, c.Segments + 256, c.Segments + 65536, 1 << 31, math.MaxUint32}
	}
	return l
}
