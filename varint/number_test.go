package varint_test

import (
	"bytes"
	"math"
	"math/rand/v2"
	"testing"

	"fascicle/api"
	"fascicle/cursor"
	"fascicle/varint"
)

// written is a number, and the bytes that it is written as.
type written struct {
	number uint64
	bytes  []byte
}

// ends gives, of a length, the least number and the greatest one that have it.
func ends(size int) (least, greatest written) {
	low, high := bytes.Repeat([]byte{128}, size), bytes.Repeat([]byte{255}, size)
	low[size-1], high[size-1] = 1, 127
	if size == 1 {
		return written{0, []byte{0}}, written{127, high}
	}
	if size == 10 {
		high[9] = 1
		return written{1 << 63, low}, written{math.MaxUint64, high}
	}
	return written{1 << (7 * (size - 1)), low}, written{1<<(7*size) - 1, high}
}

// samples are numbers of each length, at its ends and between them.
func samples() []written {
	l := []written{
		{1, []byte{1}},
		{64, []byte{64}},
		{129, []byte{129, 1}},
		{300, []byte{172, 2}}, // the chapter's example
		{8192, []byte{128, 64}},
		{16385, []byte{129, 128, 1}},
		{1 << 20, []byte{128, 128, 64}},
		{0xdeadbeef, []byte{239, 253, 182, 245, 13}},
		{0x0123456789abcdef, []byte{239, 155, 175, 205, 248, 172, 209, 145, 1}},
		{math.MaxUint64 - 1, []byte{254, 255, 255, 255, 255, 255, 255, 255, 255, 1}},
	}
	for size := 1; size <= 10; size++ {
		least, greatest := ends(size)
		l = append(l, least, greatest)
	}
	return l
}

// put gives the bytes that a number is written as.
func put(x uint64) []byte {
	var w cursor.Buffer
	varint.Put(&w, x)
	return w.Bytes()
}

// P2.1: a number is written seven bits at a time, the lowest first, in as few bytes as can be.
func TestPut(t *testing.T) {
	for _, s := range samples() {
		if got := put(s.number); !bytes.Equal(got, s.bytes) {
			t.Errorf("%d is written as %v; it ought to be %v", s.number, got, s.bytes)
		}
	}
}

// P2.1: each number is written behind what the Buffer has.
func TestPutBehindTheOthers(t *testing.T) {
	var w cursor.Buffer
	want := []byte{7}
	w.Byte(7)
	for _, s := range samples() {
		varint.Put(&w, s.number)
		w.Byte(9)
		want = append(append(want, s.bytes...), 9)
		if got := w.Bytes(); !bytes.Equal(got, want) {
			t.Fatalf("behind %d: %v; it ought to be %v", s.number, got, want)
		}
	}
}

// P2.1: Size is how many bytes a number is written as.
func TestSize(t *testing.T) {
	for _, s := range samples() {
		if got := varint.Size(s.number); got != len(s.bytes) {
			t.Errorf("Size of %d: %d; it ought to be %d", s.number, got, len(s.bytes))
		}
	}
	for bit := range 64 {
		for _, x := range []uint64{1<<bit - 1, 1 << bit, 1<<bit + 1, math.MaxUint64 >> bit} {
			if got, want := varint.Size(x), len(put(x)); got != want {
				t.Errorf("Size of %d: %d; it is written in %d", x, got, want)
			}
		}
	}
}

// reading is what is to be told of bytes: the number with which they begin, or the error, and how many bytes were read.
type reading struct {
	number uint64
	at     int
	e      api.Errno
}

// expectNumber holds Get, ahead of whose bytes others were read, and Read against what is to be told of bytes.
func expectNumber(t *testing.T, b []byte, want reading) {
	t.Helper()
	got := reading{}
	at, e := cursor.Run(append([]byte{3, 4, 5}, b...), func(c *cursor.Cursor) {
		c.Take(3)
		got.number = varint.Get(c)
	})
	got.at, got.e = at-3, e
	if got != want {
		t.Errorf("Get of %v: %v; it ought to be %v", b, got, want)
	}
	if want.e != api.OK {
		want.at = 0
	}
	x, n, e := varint.Read(b)
	if got := (reading{x, n, e}); got != want {
		t.Errorf("Read of %v: %v; it ought to be %v", b, got, want)
	}
}

// P2.2: the number with which bytes begin, whatever stands behind it.
func TestGet(t *testing.T) {
	for _, s := range samples() {
		for _, behind := range [][]byte{nil, {0}, {1}, {128}, {255, 255}, bytes.Repeat([]byte{128}, 12)} {
			expectNumber(t, append(bytes.Clone(s.bytes), behind...), reading{s.number, len(s.bytes), api.OK})
		}
	}
}

// P2.2: Get gives the numbers one behind the other.
func TestGetOneBehindTheOther(t *testing.T) {
	var all []byte
	for _, s := range samples() {
		all = append(all, s.bytes...)
	}
	at, e := cursor.Run(all, func(c *cursor.Cursor) {
		for _, s := range samples() {
			if x := varint.Get(c); x != s.number {
				t.Errorf("Get: %d; it ought to be %d", x, s.number)
			}
		}
		c.End()
	})
	if at != len(all) || e != api.OK {
		t.Errorf("Run told %d, %d", at, e)
	}
}

// P2.2: bytes are wanting, at each place: what is there is read.
func TestBytesAreWanting(t *testing.T) {
	expectNumber(t, nil, reading{0, 0, api.ErrShort})
	for _, s := range samples() {
		for n := range s.bytes {
			expectNumber(t, s.bytes[:n], reading{0, n, api.ErrShort})
		}
	}
}

// P2.2: the tenth byte may be 1, not above it, whether or not others follow.
func TestTenthByte(t *testing.T) {
	for _, low := range []byte{128, 129, 200, 255} {
		ahead := bytes.Repeat([]byte{low}, 9)
		for tenth := 2; tenth < 256; tenth++ {
			b := append(bytes.Clone(ahead), byte(tenth))
			expectNumber(t, b, reading{0, 10, api.ErrLong})
			expectNumber(t, append(b, 0, 1), reading{0, 10, api.ErrLong})
			expectNumber(t, append(b, 1), reading{0, 10, api.ErrLong})
		}
		expectNumber(t, append(bytes.Clone(ahead), 0), reading{0, 10, api.ErrForm})
	}
	expectNumber(t, append(bytes.Repeat([]byte{128}, 9), 1), reading{1 << 63, 10, api.OK})
	expectNumber(t, append(bytes.Repeat([]byte{255}, 9), 1), reading{math.MaxUint64, 10, api.OK})
}

// P2.2: a last byte 0 may be the first one, no other one.
func TestLastByteIsNought(t *testing.T) {
	expectNumber(t, []byte{0}, reading{0, 1, api.OK})
	expectNumber(t, []byte{0, 0}, reading{0, 1, api.OK})
	for n := 1; n <= 9; n++ {
		for _, low := range []byte{128, 129, 255} {
			b := append(bytes.Repeat([]byte{low}, n), 0)
			expectNumber(t, b, reading{0, n + 1, api.ErrForm})
			expectNumber(t, append(b, 1), reading{0, n + 1, api.ErrForm})
		}
		within := append(bytes.Repeat([]byte{128}, n), 1) // a group of noughts that isn't the last one
		expectNumber(t, within, reading{1 << (7 * n), n + 1, api.OK})
	}
}

// toldOf works out, by where the last byte of a number stands, what is to be told of bytes.
func toldOf(b []byte) reading {
	last := -1
	for i, x := range b {
		if x < 128 {
			last = i
			break
		}
	}
	switch {
	case last < 0 && len(b) < 10:
		return reading{0, len(b), api.ErrShort}
	case last < 0 || last > 9 || last == 9 && b[9] > 1:
		return reading{0, 10, api.ErrLong}
	case last > 0 && b[last] == 0:
		return reading{0, last + 1, api.ErrForm}
	}
	var x uint64
	for i := last; i >= 0; i-- {
		x = x*128 + uint64(b[i]%128)
	}
	return reading{x, last + 1, api.OK}
}

// P2.2, P2.3: all bytes up to three, and many of up to twelve, most of them with others to follow.
func TestAnyBytes(t *testing.T) {
	for i := range 1 << 24 {
		b := []byte{byte(i), byte(i >> 8), byte(i >> 16)}
		x, n, e := varint.Read(b)
		want := toldOf(b)
		if want.e != api.OK {
			want.at = 0
		}
		if (reading{x, n, e}) != want {
			t.Fatalf("Read of %v: %d, %d, %d; it ought to be %v", b, x, n, e, want)
		}
		if i < 1<<8 {
			expectNumber(t, b[:1], toldOf(b[:1]))
		}
		if i < 1<<16 {
			expectNumber(t, b[:2], toldOf(b[:2]))
		}
	}
	r := rand.New(rand.NewPCG(2, 2))
	for range 200000 {
		b := make([]byte, r.IntN(13))
		for i := range b {
			b[i] = byte(r.IntN(256)) | 128
			if r.IntN(8) == 0 {
				b[i] = byte(r.IntN(4))
			}
		}
		expectNumber(t, b, toldOf(b))
	}
}

// P2.3: what is written is read, and of any bytes just what a number is written as is read as it.
func TestWrittenIsRead(t *testing.T) {
	r := rand.New(rand.NewPCG(2, 3))
	for range 200000 {
		x := r.Uint64() >> r.IntN(64)
		b := put(x)
		if y, n, e := varint.Read(b); y != x || n != len(b) || e != api.OK {
			t.Fatalf("%d is written as %v, and read as %d, %d, %d", x, b, y, n, e)
		}
		b[r.IntN(len(b))] ^= 1 << r.IntN(8)
		if y, n, e := varint.Read(b); e == api.OK && !bytes.Equal(put(y), b[:n]) {
			t.Fatalf("%v is read as %d, which is written as %v", b[:n], y, put(y))
		}
	}
}

// P2.2: at an error the reading is given up, and Get gives nothing.
func TestNothingBehindAnErrorIsDone(t *testing.T) {
	for _, b := range [][]byte{nil, {128}, {128, 0}, bytes.Repeat([]byte{255}, 10)} {
		cursor.Run(b, func(c *cursor.Cursor) {
			x := varint.Get(c)
			t.Errorf("Get of %v went on with %d", b, x)
		})
	}
}

// P2.2: a cursor outside of its reading, and none, tell zero (chapter 1).
func TestOutsideOfAReading(t *testing.T) {
	var kept *cursor.Cursor
	cursor.Run([]byte{5, 5, 5, 5, 5, 5}, func(c *cursor.Cursor) { kept = c })
	for what, c := range map[string]*cursor.Cursor{"nil": nil, "a zero value": {}, "one whose reading is over": kept} {
		if x := varint.Get(c); x != 0 {
			t.Errorf("%s: Get told %d", what, x)
		}
		for _, bounds := range [][2]int{{0, 9}, {1, 9}, {9, 1}, {-1, -1}, {math.MinInt, math.MaxInt}, {math.MaxInt, math.MinInt}} {
			if s := varint.GetText(c, bounds[0], bounds[1]); s != "" {
				t.Errorf("%s: GetText by %v told %q", what, bounds, s)
			}
		}
	}
}
