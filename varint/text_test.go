package varint_test

import (
	"bytes"
	"math"
	"math/rand/v2"
	"strings"
	"testing"

	"fascicle/api"
	"fascicle/cursor"
	"fascicle/varint"
)

// texts are some of each length of their length, with bytes that are no runes, and noughts.
func texts() []string {
	l := []string{"", "a", "abc", "\x00", "\x00\x00", "\x80", "\xff\xfe\x00\x80", "\u00e9\u4e16\U0001f600", "\xed\xa0\x80"}
	for _, n := range []int{126, 127, 128, 129, 300, 4096, 16383, 16384, 1 << 20} {
		l = append(l, strings.Repeat("x", n), strings.Repeat("\x00\xff", n/2))
	}
	return l
}

// putText gives the bytes that a text is written as.
func putText(s string) []byte {
	var w cursor.Buffer
	varint.PutText(&w, s)
	return w.Bytes()
}

// P2.1: a text is its length, a number, and its bytes.
func TestPutText(t *testing.T) {
	for _, s := range texts() {
		want := append(put(uint64(len(s))), s...)
		if got := putText(s); !bytes.Equal(got, want) {
			t.Errorf("a text of %d bytes is written otherwise", len(s))
		}
	}
	if got, want := putText("ab"), []byte{2, 'a', 'b'}; !bytes.Equal(got, want) {
		t.Errorf("ab: %v; it ought to be %v", got, want)
	}
	if got := putText(strings.Repeat("x", 300)); len(got) != 302 || got[0] != 172 || got[1] != 2 || got[2] != 'x' {
		t.Errorf("300 bytes are written as %v ..", got[:3])
	}
}

// P2.1: each text is written behind what the Buffer has.
func TestPutTextBehindTheOthers(t *testing.T) {
	var w cursor.Buffer
	w.Byte(7)
	varint.PutText(&w, "ab")
	varint.PutText(&w, "")
	varint.Put(&w, 300)
	varint.PutText(&w, "c")
	if got, want := w.Bytes(), []byte{7, 2, 'a', 'b', 0, 172, 2, 1, 'c'}; !bytes.Equal(got, want) {
		t.Errorf("one behind the other: %v; it ought to be %v", got, want)
	}
}

// expectText holds GetText, ahead of whose bytes others were read, against what is to be told of bytes by bounds.
func expectText(t *testing.T, b []byte, least, most int, text string, at int, e api.Errno) {
	t.Helper()
	got := ""
	gotAt, gotE := cursor.Run(append([]byte{3, 4}, b...), func(c *cursor.Cursor) {
		c.Take(2)
		got = varint.GetText(c, least, most)
	})
	if got != text || gotAt-2 != at || gotE != e {
		t.Errorf("GetText of %.20v by %d and %d: %.20q, %d, %d; it ought to be %.20q, %d, %d", b, least, most, got, gotAt-2, gotE, text, at, e)
	}
}

// P2.2: the next text, whatever stands behind it.
func TestGetText(t *testing.T) {
	for _, s := range texts() {
		b := putText(s)
		for _, behind := range []string{"", "\x00", "\xff\xff"} {
			all := append(bytes.Clone(b), behind...)
			expectText(t, all, 0, math.MaxInt, s, len(b), api.OK)
			expectText(t, all, len(s), len(s), s, len(b), api.OK)
			expectText(t, all, math.MinInt, len(s)+1, s, len(b), api.OK)
			expectText(t, all, len(s)-1, 1<<20, s, len(b), api.OK)
		}
	}
}

// P2.2: GetText gives the texts one behind the other.
func TestGetTextOneBehindTheOther(t *testing.T) {
	var w cursor.Buffer
	for _, s := range texts() {
		varint.PutText(&w, s)
	}
	at, e := cursor.Run(w.Bytes(), func(c *cursor.Cursor) {
		for _, s := range texts() {
			if got := varint.GetText(c, 0, 1<<20); got != s {
				t.Errorf("a text of %d bytes is read as one of %d", len(s), len(got))
			}
		}
		c.End()
	})
	if at != w.Len() || e != api.OK {
		t.Errorf("Run told %d, %d", at, e)
	}
}

// P2.2: the length is held against most and least, at them and next to them; just the length was read.
func TestLengthOutsideOfItsBounds(t *testing.T) {
	for _, s := range []string{"a", "abc", strings.Repeat("x", 127), strings.Repeat("x", 128), strings.Repeat("x", 300)} {
		b, n := putText(s), len(s)
		size := varint.Size(uint64(n))
		expectText(t, b, 0, n-1, "", size, api.ErrLong)
		expectText(t, b, n, n-1, "", size, api.ErrLong)
		expectText(t, b, 0, 0, "", size, api.ErrLong)
		expectText(t, b, n+1, n+1, "", size, api.ErrForm)
		expectText(t, b, n+1, math.MaxInt, "", size, api.ErrForm)
		expectText(t, b, math.MaxInt, n, "", size, api.ErrForm)
	}
}

// P2.2: bounds below 0 are as 0.
func TestBoundsBelowNought(t *testing.T) {
	for _, below := range []int{-1, -128, math.MinInt} {
		expectText(t, []byte{0}, below, below, "", 1, api.OK)
		expectText(t, []byte{0}, 0, below, "", 1, api.OK)
		expectText(t, []byte{0}, below, 0, "", 1, api.OK)
		expectText(t, []byte{1, 'a'}, below, below, "", 1, api.ErrLong)
		expectText(t, []byte{1, 'a'}, below, 0, "", 1, api.ErrLong)
		expectText(t, []byte{1, 'a'}, below, 1, "a", 2, api.OK)
		expectText(t, []byte{0}, 1, below, "", 1, api.ErrForm)
		expectText(t, []byte{1, 'a'}, 1, below, "", 1, api.ErrLong)
	}
}

// P2.2: of most below least no text may be: above most is asked ahead of below least.
func TestMostBelowLeast(t *testing.T) {
	for n, e := range []api.Errno{api.ErrForm, api.ErrForm, api.ErrForm, api.ErrLong, api.ErrLong, api.ErrLong, api.ErrLong} {
		expectText(t, putText(strings.Repeat("x", n)), 5, 2, "", 1, e)
	}
	expectText(t, []byte{0}, 1, 0, "", 1, api.ErrForm)
	expectText(t, []byte{1, 'a'}, 2, 0, "", 1, api.ErrLong)
}

// P2.2: the length is held against its bounds ahead of the bytes behind it.
func TestBoundsAheadOfBytesWanting(t *testing.T) {
	expectText(t, []byte{97}, 0, 96, "", 1, api.ErrLong)
	expectText(t, []byte{97}, 98, 200, "", 1, api.ErrForm)
	expectText(t, []byte{97}, 97, 97, "", 1, api.ErrShort)
	expectText(t, []byte{172, 2, 'a'}, 0, 299, "", 2, api.ErrLong)
	expectText(t, []byte{172, 2, 'a'}, 301, 400, "", 2, api.ErrForm)
}

// P2.2: fewer bytes than the length says: none of them is read (chapter 1).
func TestTextWithFewerBytesThanItsLength(t *testing.T) {
	for _, s := range []string{"a", "abc", strings.Repeat("x", 127), strings.Repeat("x", 128), strings.Repeat("x", 300)} {
		b, size := putText(s), varint.Size(uint64(len(s)))
		for n := size; n < len(b); n++ {
			expectText(t, b[:n], 0, len(s), "", size, api.ErrShort)
		}
	}
	all := []byte("\x05abcdefgh") // what stands in the spare room isn't there
	at, e := cursor.Run(all[:4], func(c *cursor.Cursor) { varint.GetText(c, 0, 9) })
	if at != 1 || e != api.ErrShort {
		t.Errorf("with spare room: %d, %d", at, e)
	}
}

// P2.2: lengths beyond all that there may be.
func TestVeryGreatLengths(t *testing.T) {
	for _, n := range []uint64{math.MaxInt64, math.MaxInt64 - 1, math.MaxInt32 + 1, 1 << 40} {
		b := append(put(n), "abc"...)
		size := varint.Size(n)
		expectText(t, b, 0, math.MaxInt, "", size, api.ErrShort)
		expectText(t, b, int(n), int(n), "", size, api.ErrShort)
		expectText(t, b, 0, 3, "", size, api.ErrLong)
		expectText(t, b, 0, int(n-1), "", size, api.ErrLong)
	}
	for _, n := range []uint64{1 << 63, 1<<63 + 3, math.MaxUint64, math.MaxUint64 - 2} {
		b := append(put(n), "abc"...)
		for _, most := range []int{math.MaxInt, 3, 0, -1, math.MinInt} {
			expectText(t, b, 0, most, "", 10, api.ErrLong)
			expectText(t, b, math.MaxInt, most, "", 10, api.ErrLong)
		}
	}
}

// P2.2: Get's errors of the length come ahead of all others.
func TestErrorsOfTheLength(t *testing.T) {
	for _, b := range [][]byte{nil, {128}, {255, 128}, {128, 0}, {131, 0, 'a', 'b', 'c'}, {255, 255, 128, 0}, append(bytes.Repeat([]byte{255}, 9), 2), bytes.Repeat([]byte{128}, 12), append(bytes.Repeat([]byte{128}, 9), 0)} {
		want := toldOf(b)
		for _, bounds := range [][2]int{{0, 0}, {0, 9}, {9, 0}, {-1, -1}, {9, math.MaxInt}} {
			expectText(t, b, bounds[0], bounds[1], "", want.at, want.e)
		}
	}
}

// P2.2: at an error the reading is given up, and GetText gives nothing.
func TestNothingBehindATextsErrorIsDone(t *testing.T) {
	for _, b := range []string{"", "\x80", "\x80\x00", "\x02ab", "\x00", "\x01"} {
		cursor.Run([]byte(b), func(c *cursor.Cursor) {
			s := varint.GetText(c, 1, 1)
			t.Errorf("GetText of %q went on with %q", b, s)
		})
	}
}

// piece is a number or a text.
type piece struct {
	text   bool
	number uint64
	bytes  string
}

// pieces are some of both kinds, the same ones at every run of the tests.
func pieces(seed uint64) []piece {
	r := rand.New(rand.NewPCG(seed, 4))
	l := make([]piece, r.IntN(40))
	for i := range l {
		b := make([]byte, r.IntN(400)>>r.IntN(9))
		for j := range b {
			b[j] = byte(r.Uint32())
		}
		l[i] = piece{r.IntN(2) == 0, r.Uint64() >> r.IntN(64), string(b)}
	}
	return l
}

// P2.3: numbers and texts that are written, one behind the other, are read.
func TestPiecesWrittenAreRead(t *testing.T) {
	for seed := range uint64(500) {
		var w cursor.Buffer
		l := pieces(seed)
		for _, p := range l {
			if p.text {
				varint.PutText(&w, p.bytes)
			} else {
				varint.Put(&w, p.number)
			}
		}
		at, e := cursor.Run(w.Bytes(), func(c *cursor.Cursor) {
			for i, p := range l {
				if p.text && varint.GetText(c, 0, 400) != p.bytes || !p.text && varint.Get(c) != p.number {
					t.Errorf("seed %d, piece %d isn't read as it was written", seed, i)
				}
			}
			c.End()
		})
		if at != w.Len() || e != api.OK {
			t.Errorf("seed %d: Run told %d, %d", seed, at, e)
		}
	}
}
