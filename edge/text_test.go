package edge_test

import (
	"bytes"
	"math"
	"math/rand/v2"
	"testing"

	"fascicle/api"
	"fascicle/cursor"
	"fascicle/edge"
)

// text gives 8 bytes, the lowest one first.
func text(bits uint64) []byte {
	var b []byte
	for i := range 8 {
		b = append(b, byte(bits>>(8*i)))
	}
	return b
}

// put gives what is written of a number.
func put(x float64) []byte {
	var w cursor.Buffer
	edge.Put(&w, x)
	return w.Bytes()
}

// get tells what is read of bytes, how many were read, and whether what stands behind Get in the reading was done.
func get(b []byte) (x float64, at int, e api.Errno, behind bool) {
	at, e = cursor.Run(b, func(c *cursor.Cursor) {
		x = edge.Get(c)
		behind = true
	})
	return x, at, e, behind
}

// P6.1: Put writes 8 bytes, of each NaN the same ones.
func TestPut(t *testing.T) {
	for i, p := range row {
		want := text(p.bits)
		if i >= firstNaN {
			want = []byte{0, 0, 0, 0, 0, 0, 0xf8, 0x7f}
		}
		if got := put(p.number()); !bytes.Equal(got, want) {
			t.Errorf("of %s: %v; it ought to be %v", tell(p.number()), got, want)
		}
	}
}

// P6.1: Put writes behind the others.
func TestPutBehindOthers(t *testing.T) {
	var w cursor.Buffer
	w.Byte(7)
	edge.Put(&w, 1)
	edge.Put(&w, minus())
	want := []byte{7, 0, 0, 0, 0, 0, 0, 0xf0, 0x3f, 0, 0, 0, 0, 0, 0, 0, 0x80}
	if got := w.Bytes(); !bytes.Equal(got, want) {
		t.Errorf("%v; it ought to be %v", got, want)
	}
}

// P6.1, P6.3: Get of what Put wrote has the same bits; of a NaN those that are written.
func TestGetOfWhatPutWrote(t *testing.T) {
	for i, p := range row {
		want := p.bits
		if i >= firstNaN {
			want = canonical
		}
		x, at, e, behind := get(put(p.number()))
		if math.Float64bits(x) != want || at != 8 || e != api.OK || !behind {
			t.Errorf("of %s: %s, %d, %d, %t", tell(p.number()), tell(x), at, e, behind)
		}
	}
}

// P6.3: numbers of any bits, one behind the other, are read as they were written.
func TestWrittenIsRead(t *testing.T) {
	for seed := range uint64(300) {
		r := rand.New(rand.NewPCG(seed, 61))
		l := make([]float64, r.IntN(40))
		var w cursor.Buffer
		for i := range l {
			l[i] = some(r)
			edge.Put(&w, l[i])
		}
		at, e := cursor.Run(w.Bytes(), func(c *cursor.Cursor) {
			for i, want := range l {
				if got := edge.Get(c); !alike(got, want) {
					t.Errorf("seed %d, number %d: %s is read as %s", seed, i, tell(want), tell(got))
				}
			}
			c.End()
		})
		if at != 8*len(l) || e != api.OK {
			t.Errorf("seed %d: Run told %d, %d", seed, at, e)
		}
	}
}

// P6.1: of fewer than 8 bytes ErrShort is told, and none of them is read.
func TestGetShort(t *testing.T) {
	for _, whole := range [][]byte{put(1.5), put(math.NaN()), text(math.MaxUint64)} {
		for size := range 8 {
			if x, at, e, behind := get(whole[:size]); x != 0 || at != 0 || e != api.ErrShort || behind {
				t.Errorf("of %d bytes: %s, %d, %d, %t", size, tell(x), at, e, behind)
			}
		}
	}
	if x, at, e, behind := get(nil); x != 0 || at != 0 || e != api.ErrShort || behind {
		t.Errorf("of nil: %s, %d, %d, %t", tell(x), at, e, behind)
	}
}

// P6.1: what was read ahead of the bytes that are wanting counts.
func TestGetShortBehindOthers(t *testing.T) {
	var first float64
	at, e := cursor.Run(append(put(2.5), 1, 2, 3, 4, 5, 6, 7), func(c *cursor.Cursor) {
		first = edge.Get(c)
		edge.Get(c)
		t.Error("the reading went on")
	})
	if first != 2.5 || at != 8 || e != api.ErrShort {
		t.Errorf("%s, %d, %d", tell(first), at, e)
	}
}

// P6.1: of a NaN's other bits ErrForm is told, behind its 8 bytes, whatever stands behind them.
func TestGetOtherNaN(t *testing.T) {
	for _, p := range row[firstNaN+1:] {
		for _, behind := range [][]byte{nil, {9}, put(1)} {
			if x, at, e, on := get(append(text(p.bits), behind...)); x != 0 || at != 8 || e != api.ErrForm || on {
				t.Errorf("of %016x with %d bytes behind it: %s, %d, %d, %t", p.bits, len(behind), tell(x), at, e, on)
			}
		}
		at, e := cursor.Run(append([]byte{1}, text(p.bits)...), func(c *cursor.Cursor) {
			c.Byte()
			edge.Get(c)
		})
		if at != 9 || e != api.ErrForm {
			t.Errorf("of %016x with a byte ahead of it: %d, %d", p.bits, at, e)
		}
	}
}

// P6.1: whatever 8 bytes are, they are the number of those bits, or ErrForm is told.
func TestGetAny(t *testing.T) {
	r := rand.New(rand.NewPCG(2, 6))
	for range 50000 {
		bits := r.Uint64() | uint64(r.IntN(2))*0x7ff0000000000000
		wrong := bits != canonical && math.IsNaN(math.Float64frombits(bits))
		x, at, e, _ := get(text(bits))
		if wrong && (x != 0 || at != 8 || e != api.ErrForm) || !wrong && (math.Float64bits(x) != bits || at != 8 || e != api.OK) {
			t.Fatalf("of %016x: %s, %d, %d", bits, tell(x), at, e)
		}
	}
}

// P6.1, P1.2: outside of its reading, and of a nil cursor, Get tells zero.
func TestGetOutside(t *testing.T) {
	var kept *cursor.Cursor
	b := append(put(3), put(4)...)
	cursor.Run(b, func(c *cursor.Cursor) {
		kept = c
		edge.Get(c)
	})
	for _, c := range []*cursor.Cursor{kept, nil, new(cursor.Cursor)} {
		if x := edge.Get(c); math.Float64bits(x) != 0 {
			t.Errorf("outside: %s", tell(x))
		}
	}
}

// R4: bytes that are read aren't changed, and what a Buffer answered isn't touched by what is put behind it.
func TestTextsAreNotShared(t *testing.T) {
	all := append(put(5), text(0x7ff8000000000001)...)
	was := bytes.Clone(all)
	get(all)
	get(all[:4])
	get(all[8:])
	if !bytes.Equal(all, was) {
		t.Errorf("%v was changed to %v", was, all)
	}
	var w cursor.Buffer
	edge.Put(&w, 1)
	first := w.Bytes()
	edge.Put(&w, 2)
	clear(first)
	if got, want := w.Bytes(), append(put(1), put(2)...); !bytes.Equal(got, want) {
		t.Errorf("behind a change of an answer: %v; it ought to be %v", got, want)
	}
}
