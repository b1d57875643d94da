package fence_test

import (
	"bytes"
	"math"
	"math/rand/v2"
	"slices"
	"testing"

	"fascicle/api"
	"fascicle/cursor"
	"fascicle/fence"
)

// P12.2: each fence, in order, is a number of 8 bytes, with the lowest byte first; those that fall are put as they are.
func TestPut(t *testing.T) {
	for _, c := range []struct {
		fences []uint64
		want   []byte
	}{
		{nil, nil},
		{[]uint64{}, nil},
		{[]uint64{0}, make([]byte, 8)},
		{[]uint64{most}, bytes.Repeat([]byte{255}, 8)},
		{[]uint64{0x0807060504030201}, []byte{1, 2, 3, 4, 5, 6, 7, 8}},
		{[]uint64{0, 16, 32}, []byte{0, 0, 0, 0, 0, 0, 0, 0, 16, 0, 0, 0, 0, 0, 0, 0, 32, 0, 0, 0, 0, 0, 0, 0}},
		{[]uint64{300, 300, high}, []byte{44, 1, 0, 0, 0, 0, 0, 0, 44, 1, 0, 0, 0, 0, 0, 0, 0, 0, 0, 0, 0, 0, 0, 128}},
		{[]uint64{2, 1}, []byte{2, 0, 0, 0, 0, 0, 0, 0, 1, 0, 0, 0, 0, 0, 0, 0}},
	} {
		if got := put(c.fences); !bytes.Equal(got, c.want) {
			t.Errorf("%v: %v; it ought to be %v", c.fences, got, c.want)
		}
	}
	for _, fences := range slices.Concat(fenceRows(), fallingRows()) {
		if got, want := put(fences), written(fences); !bytes.Equal(got, want) {
			t.Errorf("%v: %v; it ought to be %v", fences, got, want)
		}
	}
}

// P12.2: they are written behind the bytes that a Buffer has.
func TestPutBehindTheOthers(t *testing.T) {
	var w cursor.Buffer
	w.Byte(7)
	want := []byte{7}
	for _, fences := range slices.Concat(fenceRows(), fallingRows()) {
		fence.Put(&w, fences)
		w.Byte(8)
		want = join(want, written(fences), []byte{8})
		if got := w.Bytes(); w.Len() != len(want) || !bytes.Equal(got, want) {
			t.Fatalf("behind others: %v; it ought to be %v", got, want)
		}
	}
}

// P12.3: a nil Buffer isn't asked: nothing happens, whatever there is to write.
func TestPutIntoNoBuffer(t *testing.T) {
	for _, fences := range slices.Concat(fenceRows(), fallingRows()) {
		was := slices.Clone(fences)
		fence.Put(nil, fences)
		if !slices.Equal(fences, was) {
			t.Errorf("%v was changed to %v", was, fences)
		}
	}
}

// P12.2: the bytes are got as fences, whatever stands behind them.
func TestGet(t *testing.T) {
	b := []byte{
		2, 0, 0, 0, 0, 0, 0, 0,
		44, 1, 0, 0, 0, 0, 0, 0,
		44, 1, 0, 0, 0, 0, 0, 0,
		8, 7, 6, 5, 4, 3, 2, 1,
		9, 9, 9,
	}
	fences := []uint64{2, 300, 300, 0x0102030405060708}
	for n := range 5 {
		want := got{fences: fences[:n], returned: true, at: 8 * n, left: len(b) - 8*n}
		if x := get(b, n); !x.same(want) {
			t.Errorf("Get of %d: %v; it ought to be %v", n, x, want)
		}
	}
	if x := get(b, 5); !x.same(got{e: api.ErrShort, left: len(b)}) {
		t.Errorf("Get of 5: %v", x)
	}
}

// P12.2: what is put is got, all of it and fewer, if none is below the one ahead; more than that aren't there.
func TestPutIsGot(t *testing.T) {
	for _, fences := range fenceRows() {
		for _, behind := range [][]byte{nil, {0}, {255, 255, 255}, bytes.Repeat([]byte{1}, 7)} {
			b := join(put(fences), behind)
			for n := range len(fences) + 1 {
				want := got{fences: fences[:n], returned: true, at: 8 * n, left: len(b) - 8*n}
				if x := get(b, n); !x.same(want) {
					t.Errorf("Get of %d of %v, %v: %v", n, fences, behind, x)
				}
				if left := rest(b, n); !bytes.Equal(left, b[8*n:]) {
					t.Errorf("behind Get of %d of %v, %v, this can still be read: %v", n, fences, behind, left)
				}
			}
			for _, more := range []int{1, 2, 1000} {
				if x := get(b, len(fences)+more); !x.same(got{e: api.ErrShort, left: len(b)}) {
					t.Errorf("Get of %d of %v, %v: %v", len(fences)+more, fences, behind, x)
				}
			}
		}
	}
}

// P12.2: of a number that isn't above 0 there are none, and nothing is read.
func TestGetOfNone(t *testing.T) {
	for _, n := range []int{0, -1, -2, -8, math.MinInt32, math.MinInt / 8, math.MinInt/8 - 1, math.MinInt + 1, math.MinInt} {
		for _, b := range [][]byte{nil, {}, {1}, make([]byte, 8), put([]uint64{2, 1})} {
			if x := get(b, n); !x.same(got{returned: true, left: len(b)}) {
				t.Errorf("Get of %d of %d bytes: %v", n, len(b), x)
			}
		}
	}
}

// P12.2: of very many, 8 times which goes beyond a number's bounds, bytes are wanting, too.
func TestGetOfVeryMany(t *testing.T) {
	const whole = math.MaxInt/4 + 1 // 8 times it is 0 in a number of the machine's size
	numbers := []int{math.MaxInt, math.MaxInt - 1, math.MaxInt/8 + 1, math.MaxInt/8 + 2, math.MaxInt / 8, whole - 1, whole, whole + 1, whole + 2, 2*whole - 1, math.MaxInt32, math.MaxInt32/8 + 1}
	for _, n := range numbers {
		for _, b := range [][]byte{nil, {1}, put([]uint64{7}), put([]uint64{7, 8}), make([]byte, 100)} {
			if x := get(b, n); !x.same(got{e: api.ErrShort, left: len(b)}) {
				t.Errorf("Get of %d of %d bytes: %v", n, len(b), x)
			}
		}
	}
}

// P12.2: bytes cut off at each place: none is read, where one is wanting.
func TestGetOfBytesThatAreCutOff(t *testing.T) {
	for _, fences := range slices.Concat(fenceRows(), fallingRows()) {
		b := put(fences)
		for size := range b {
			if x := get(b[:size], len(fences)); !x.same(got{e: api.ErrShort, left: size}) {
				t.Errorf("Get of %d of %d bytes: %v", len(fences), size, x)
			}
			expectGet(t, b[:size], size/8)
			expectGet(t, b[:size], size/8+1)
		}
	}
}

// P12.2: neighbours that are the same are got, one that is below the one ahead stops it behind them all.
func TestGetOfFencesThatFall(t *testing.T) {
	same, falling := []uint64{5, 8, 8, 9}, []uint64{5, 8, 7, 9}
	if x := get(put(same), 4); !x.same(got{fences: same, returned: true, at: 32}) {
		t.Errorf("Get of %v: %v", same, x)
	}
	if x := get(put(falling), 4); !x.same(got{at: 32, e: api.ErrOrder}) {
		t.Errorf("Get of %v: %v", falling, x)
	}
	for _, fences := range fallingRows() {
		n := len(fences)
		for _, behind := range [][]byte{nil, {0}, {1, 2, 3}, put([]uint64{most})} {
			b := join(put(fences), behind)
			if x := get(b, n); !x.same(got{at: 8 * n, e: api.ErrOrder, left: len(behind)}) {
				t.Errorf("Get of %v, %v: %v", fences, behind, x)
			}
		}
		for fewer := range n {
			expectGet(t, put(fences), fewer) // none of the beginning may fall
		}
		if x := get(put(fences), n+1); !x.same(got{e: api.ErrShort, left: 8 * n}) {
			t.Errorf("Get of one more than %v: %v", fences, x)
		}
	}
}

// P12.2: any bytes by any number.
func TestGetOfAnyBytes(t *testing.T) {
	r := rand.New(rand.NewPCG(12, 5))
	for range 5000 {
		fences := some(r, r.IntN(6))
		if r.IntN(3) == 0 {
			r.Shuffle(len(fences), func(i, j int) { fences[i], fences[j] = fences[j], fences[i] })
		}
		b := put(fences)
		for range r.IntN(3) {
			b = append(b, byte(r.IntN(256)))
		}
		for n := -1; n <= len(b)/8+2; n++ {
			expectGet(t, b, n)
		}
	}
}

// P12.2: within a reading it goes on behind what was read, and others go on behind it.
func TestGetOneBehindTheOther(t *testing.T) {
	first, second := []uint64{8, 9}, []uint64{2}
	b := join([]byte{7}, put(first), put(second), []byte{6})
	at, e := cursor.Run(b, func(c *cursor.Cursor) {
		if c.Byte() != 7 {
			t.Error("the byte ahead")
		}
		if l := fence.Get(c, 2); !slices.Equal(l, first) || c.At() != 17 {
			t.Errorf("the first ones: %v, %d", l, c.At())
		}
		if l := fence.Get(c, 0); len(l) != 0 || c.At() != 17 {
			t.Errorf("none: %v, %d", l, c.At())
		}
		if l := fence.Get(c, 1); !slices.Equal(l, second) || c.At() != 25 { // below the first ones: each Get is of its own
			t.Errorf("the second one: %v, %d", l, c.At())
		}
		if c.Byte() != 6 {
			t.Error("the byte behind")
		}
		c.End()
	})
	if at != len(b) || e != api.OK {
		t.Errorf("%d, %d", at, e)
	}
}

// P12.2: behind a stop nothing is done any more; what can still be read shows how far it went.
func TestGetStopsItsReading(t *testing.T) {
	for _, c := range []struct {
		name   string
		fences []uint64
		n      int
		left   int // of the bytes, when it stopped
		e      api.Errno
	}{
		{"too few", []uint64{1}, 2, 8 + 3, api.ErrShort},
		{"far too few", []uint64{1}, math.MaxInt, 8 + 3, api.ErrShort},
		{"too few, and they fall", []uint64{2, 1}, 3, 16 + 3, api.ErrShort},
		{"one that falls", []uint64{2, 1}, 2, 3, api.ErrOrder},
		{"one that falls at first", []uint64{2, 1, 4, 5}, 4, 3, api.ErrOrder},
	} {
		b := join([]byte{7}, put(c.fences), []byte{1, 2, 3})
		left := -1
		at, e := cursor.Run(b, func(r *cursor.Cursor) {
			defer func() { left = r.Left() }()
			r.Byte()
			fence.Get(r, c.n)
			t.Errorf("%s: it went on", c.name)
		})
		if left != c.left || at != len(b)-c.left || e != c.e {
			t.Errorf("%s: %d are left, %d were read, %d", c.name, left, at, e)
		}
	}
}

// P12.2: a reading that stopped stays stopped, for the same reason, whatever a deferred call of it asks for.
func TestGetBehindAStop(t *testing.T) {
	for _, n := range []int{-1, 0, 1, 2, 3, math.MaxInt} {
		at, e := cursor.Run(put([]uint64{7, 6}), func(c *cursor.Cursor) {
			defer func() {
				if l := fence.Get(c, n); len(l) != 0 {
					t.Errorf("Get of %d behind a stop: %v", n, l)
				}
			}()
			c.Fail(api.ErrSum)
		})
		if at != 0 || e != api.ErrSum {
			t.Errorf("Get of %d behind a stop: %d, %d", n, at, e)
		}
	}
}

// expectOutside asks a cursor outside of its reading for fences: there are none, and nothing happens.
func expectOutside(t *testing.T, what string, c *cursor.Cursor) {
	t.Helper()
	for _, n := range []int{math.MinInt, -1, 0, 1, 2, 1 << 20, math.MaxInt/8 + 1, math.MaxInt} {
		if l := fence.Get(c, n); len(l) != 0 {
			t.Errorf("%s: Get of %d told %d fences", what, n, len(l))
		}
	}
}

// P12.2: outside of a reading, and of a nil cursor, there are no fences.
func TestGetOutsideOfAReading(t *testing.T) {
	expectOutside(t, "a nil cursor", nil)
	expectOutside(t, "a zero value", new(cursor.Cursor))
	var kept *cursor.Cursor
	cursor.Run(put(ends()), func(c *cursor.Cursor) {
		kept = c
		fence.Get(c, 1)
	})
	expectOutside(t, "one whose reading is over", kept)
	cursor.Run(nil, func(c *cursor.Cursor) {
		kept = c
		fence.Get(c, 1)
	})
	expectOutside(t, "one whose reading stopped", kept)
}

// P12.2: a stop belongs to the reading of the cursor that was asked, not to one within it.
func TestGetOfAnOuterCursor(t *testing.T) {
	inner := false
	at, e := cursor.Run(put([]uint64{5, 4}), func(outer *cursor.Cursor) {
		cursor.Run([]byte{1}, func(c *cursor.Cursor) {
			fence.Get(outer, 2)
		})
		inner = true
	})
	if inner || at != 16 || e != api.ErrOrder {
		t.Errorf("%v, %d, %d", inner, at, e)
	}
}

// P12.2: many fences; the last one falls.
func TestManyFences(t *testing.T) {
	const n = 1 << 16
	fences := hashesOf(n, func(i int) uint64 { return uint64(i/2) << 40 })
	b := put(fences)
	if len(b) != 8*n {
		t.Fatalf("%d bytes", len(b))
	}
	if x := get(b, n); !slices.Equal(x.fences, fences) || x.at != 8*n || x.e != api.OK {
		t.Errorf("%d fences, %d, %d", len(x.fences), x.at, x.e)
	}
	fences[n-1] = fences[n-2] - 1
	if x := get(put(fences), n); !x.same(got{at: 8 * n, e: api.ErrOrder}) {
		t.Errorf("%d fences, %d, %d", len(x.fences), x.at, x.e)
	}
}
