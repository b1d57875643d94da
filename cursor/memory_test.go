package cursor_test

import (
	"bytes"
	"math"
	"math/rand/v2"
	"testing"

	"fascicle/api"
	"fascicle/cursor"
)

// piece is something that is written, and read again.
type piece struct {
	kind   int
	number uint64
	raw    []byte
}

const kinds = 4

func write(w *cursor.Buffer, p piece) {
	switch p.kind {
	case 0:
		w.Byte(byte(p.number))
	case 1:
		w.Four(uint32(p.number))
	case 2:
		w.Eight(p.number)
	case 3:
		w.Raw(p.raw)
	}
}

// reads tells whether what is read next is the piece.
func reads(c *cursor.Cursor, p piece) bool {
	switch p.kind {
	case 0:
		return c.Byte() == byte(p.number)
	case 1:
		return c.Four() == uint32(p.number)
	case 2:
		return c.Eight() == p.number
	}
	return bytes.Equal(c.Take(len(p.raw)), p.raw)
}

// pieces are some of all kinds, the same ones at every run of the tests.
func pieces(seed uint64) []piece {
	r := rand.New(rand.NewPCG(seed, 1))
	l := make([]piece, r.IntN(30))
	for i := range l {
		l[i] = piece{kind: r.IntN(kinds), number: r.Uint64() >> r.IntN(64)}
		for range r.IntN(20) {
			l[i].raw = append(l[i].raw, byte(r.Uint32()))
		}
	}
	return l
}

// P1.4: what is written is read.
func TestWrittenIsRead(t *testing.T) {
	for seed := range uint64(500) {
		var w cursor.Buffer
		l := pieces(seed)
		for _, p := range l {
			write(&w, p)
		}
		expectRun(t, "pieces", w.Bytes(), func(c *cursor.Cursor) {
			for i, p := range l {
				if !reads(c, p) {
					t.Errorf("seed %d, piece %d isn't read as %v", seed, i, p)
				}
			}
			c.End()
		}, w.Len(), api.OK)
	}
}

// P1.4: numbers at their edges are read as they were written.
func TestWrittenNumbersAreRead(t *testing.T) {
	for shift := range 64 {
		for _, x := range []uint64{1<<shift - 1, 1 << shift, math.MaxUint64 << shift, 0x0123456789abcdef << shift} {
			var w cursor.Buffer
			b := w.Byte(byte(x)).Four(uint32(x)).Eight(x).Bytes()
			expectRun(t, "a number", b, func(c *cursor.Cursor) {
				if c.Byte() != byte(x) || c.Four() != uint32(x) || c.Eight() != x {
					t.Errorf("%x isn't read as it was written", x)
				}
			}, 13, api.OK)
		}
	}
}

// P1.4: a reading doesn't change the bytes, their spare room neither.
func TestRunDoesNotChangeTheBytes(t *testing.T) {
	all := count(40)
	b := all[:20]
	cursor.Run(b, func(c *cursor.Cursor) {
		c.Byte()
		c.Four()
		c.Eight()
		c.Take(3)
		c.Take(-1)
		c.Left()
		c.Take(20)
	})
	cursor.Run(b, func(c *cursor.Cursor) { c.Fail(api.ErrSum) })
	cursor.Run(b, func(c *cursor.Cursor) { c.End() })
	if !bytes.Equal(all, count(40)) {
		t.Errorf("the bytes were changed: %v", all)
	}
}

// P1.4: what Take answers is new memory: it shares none with the bytes, nor with another answer.
func TestTakeAnswersNewMemory(t *testing.T) {
	all := count(20)
	var first, second []byte
	cursor.Run(all[:10], func(c *cursor.Cursor) {
		first = c.Take(4)
		second = c.Take(4)
		for i := range first {
			first[i] = 100
		}
		first = append(first, 101, 102, 103, 104, 105)
		if !bytes.Equal(second, []byte{5, 6, 7, 8}) {
			t.Errorf("a change of one answer is in the other one: %v", second)
		}
		if x := c.Byte(); x != 9 {
			t.Errorf("a change of an answer is read: %d", x)
		}
	})
	if !bytes.Equal(all, count(20)) {
		t.Errorf("a change of an answer is in the bytes: %v", all)
	}
	for i := range all {
		all[i] = 200
	}
	if !bytes.Equal(second, []byte{5, 6, 7, 8}) {
		t.Errorf("a change of the bytes is in an answer: %v", second)
	}
}

// P1.4: bytes that were read aren't kept: of others another reading tells those.
func TestRunDoesNotKeepTheBytes(t *testing.T) {
	b := []byte{1, 2}
	var kept *cursor.Cursor
	read := func(c *cursor.Cursor) {
		kept = c
		if x := c.Byte(); x != b[0] {
			t.Errorf("Byte %d of %v", x, b)
		}
	}
	expectRun(t, "at first", b, read, 1, api.OK)
	b[0], b[1] = 3, 4
	expectOutside(t, "behind a change of the bytes", kept)
	expectRun(t, "behind a change of the bytes", b, read, 1, api.OK)
}

// P1.4: what Raw is handed is neither changed nor kept, its spare room neither.
func TestRawDoesNotKeepTheBytes(t *testing.T) {
	for _, ahead := range [][]byte{nil, {50}} {
		all := count(20)
		var w cursor.Buffer
		w.Raw(ahead).Raw(all[:3]).Byte(60).Raw([]byte{61})
		if !bytes.Equal(all, count(20)) {
			t.Errorf("what was handed in was changed: %v", all)
		}
		for i := range all {
			all[i] = 200
		}
		expectBytes(t, "behind a change of what was handed in", &w, append(bytes.Clone(ahead), 1, 2, 3, 60, 61))
	}
}

// P1.4: what Bytes answers is new memory: it shares none with the Buffer, nor with another answer.
func TestBytesAnswersNewMemory(t *testing.T) {
	var w cursor.Buffer
	w.Raw(count(5))
	first, second := w.Bytes(), w.Bytes()
	for i := range first {
		first[i] = 100
	}
	first = append(first, 101, 102, 103)
	expectBytes(t, "behind a change of an answer", &w, count(5))
	if !bytes.Equal(second, count(5)) {
		t.Errorf("a change of one answer is in the other one: %v", second)
	}
	w.Byte(6)
	expectBytes(t, "behind a further byte", &w, count(6))
	if !bytes.Equal(second, count(5)) || !bytes.Equal(first[5:], []byte{101, 102, 103}) {
		t.Errorf("a further byte is in answers: %v, %v", first, second)
	}
	w.Raw(w.Bytes())
	expectBytes(t, "its own bytes behind it", &w, append(count(6), count(6)...))
}
