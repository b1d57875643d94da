package table_test

import (
	"bytes"
	"math"
	"math/rand/v2"
	"slices"
	"testing"

	"fascicle/api"
	"fascicle/cursor"
	"fascicle/table"
)

// P11.2: each entry, in order, is its Hash, 8 bytes, and its At, 4, with the lowest byte first.
func TestPut(t *testing.T) {
	for _, c := range []struct {
		l    []table.Entry
		want []byte
	}{
		{nil, nil},
		{[]table.Entry{}, nil},
		{[]table.Entry{entry(0x0807060504030201, 0x0c0b0a09)}, []byte{1, 2, 3, 4, 5, 6, 7, 8, 9, 10, 11, 12}},
		{[]table.Entry{entry(0, 0)}, make([]byte, 12)},
		{[]table.Entry{entry(most, mostA)}, bytes.Repeat([]byte{255}, 12)},
		{
			[]table.Entry{entry(2, 9), entry(5, 0), entry(5, 1), entry(high, 300)},
			[]byte{
				2, 0, 0, 0, 0, 0, 0, 0, 9, 0, 0, 0,
				5, 0, 0, 0, 0, 0, 0, 0, 0, 0, 0, 0,
				5, 0, 0, 0, 0, 0, 0, 0, 1, 0, 0, 0,
				0, 0, 0, 0, 0, 0, 0, 128, 44, 1, 0, 0,
			},
		},
		{ // ones that don't rise are put as they are
			[]table.Entry{entry(5, 1), entry(2, 9), entry(2, 9)},
			[]byte{
				5, 0, 0, 0, 0, 0, 0, 0, 1, 0, 0, 0,
				2, 0, 0, 0, 0, 0, 0, 0, 9, 0, 0, 0,
				2, 0, 0, 0, 0, 0, 0, 0, 9, 0, 0, 0,
			},
		},
	} {
		if got := put(c.l); !bytes.Equal(got, c.want) {
			t.Errorf("%v: %v; it ought to be %v", c.l, got, c.want)
		}
	}
	for _, l := range slices.Concat(rows(), wrong()) {
		if got, want := put(l), written(l); !bytes.Equal(got, want) {
			t.Errorf("%v: %v; it ought to be %v", l, got, want)
		}
	}
}

// P11.2: they are written behind the bytes that a Buffer has.
func TestPutBehindTheOthers(t *testing.T) {
	var w cursor.Buffer
	w.Byte(7)
	want := []byte{7}
	for _, l := range slices.Concat(rows(), wrong()) {
		table.Put(&w, l)
		w.Byte(8)
		want = join(want, written(l), []byte{8})
		if got := w.Bytes(); w.Len() != len(want) || !bytes.Equal(got, want) {
			t.Fatalf("behind others: %d bytes; it ought to be %d, or they are others", len(got), len(want))
		}
	}
}

// P11.3: a nil Buffer isn't asked: nothing happens, whatever there is to write.
func TestPutIntoNoBuffer(t *testing.T) {
	for _, l := range slices.Concat(rows(), wrong()) {
		was := slices.Clone(l)
		table.Put(nil, l)
		if !slices.Equal(l, was) {
			t.Errorf("%v was changed to %v", was, l)
		}
	}
}

// P11.2: the chapter's bytes are got, whatever stands behind them.
func TestGet(t *testing.T) {
	b := []byte{
		2, 0, 0, 0, 0, 0, 0, 0, 9, 0, 0, 0,
		5, 0, 0, 0, 0, 0, 0, 0, 0, 0, 0, 0,
		5, 0, 0, 0, 0, 0, 0, 0, 1, 0, 0, 0,
		8, 7, 6, 5, 4, 3, 2, 1, 4, 3, 2, 1,
		0,
	}
	l := []table.Entry{entry(2, 9), entry(5, 0), entry(5, 1), entry(0x0102030405060708, 0x01020304)}
	for n := range 5 {
		want := got{l: l[:n], returned: true, at: 12 * n, left: 49 - 12*n}
		if x := get(b, n); !x.same(want) {
			t.Errorf("Get of %d: %v; it ought to be %v", n, x, want)
		}
	}
	if x := get(b, 5); !x.same(got{e: api.ErrShort}) {
		t.Errorf("Get of 5: %v", x)
	}
}

// P11.3: what is put is got, all of it and fewer, if it rises; more than that aren't there.
func TestPutIsGot(t *testing.T) {
	for _, l := range rows() {
		b := put(l)
		for n := range len(l) + 1 {
			want := got{l: l[:n], returned: true, at: 12 * n, left: 12 * (len(l) - n)}
			if x := get(b, n); !x.same(want) {
				t.Errorf("Get of %d of %v: %v", n, l, x)
			}
			for _, behind := range [][]byte{{0}, {255, 255, 255}, make([]byte, 12), bytes.Repeat([]byte{255}, 25)} {
				want.left = 12*(len(l)-n) + len(behind)
				if x := get(join(b, behind), n); !x.same(want) {
					t.Errorf("Get of %d of %v with %v behind it: %v", n, l, behind, x)
				}
			}
		}
		for _, more := range []int{1, 2, 1000} {
			if x := get(b, len(l)+more); !x.same(got{e: api.ErrShort}) {
				t.Errorf("Get of %d of %v: %v", len(l)+more, l, x)
			}
		}
	}
}

// P11.2: of a number that isn't above 0 there are none, and nothing is read.
func TestGetOfNone(t *testing.T) {
	for _, n := range []int{0, -1, -2, -12, math.MinInt32, math.MinInt / 12, math.MinInt/12 - 1, math.MinInt + 1, math.MinInt} {
		for _, b := range [][]byte{nil, {}, {1}, make([]byte, 12), make([]byte, 24)} {
			want := got{returned: true, left: len(b)}
			if x := get(b, n); !x.same(want) {
				t.Errorf("Get of %d of %d bytes: %v", n, len(b), x)
			}
		}
	}
}

// P11.2: of very many, 12 times which goes beyond a number's bounds, bytes are wanting, too.
func TestGetOfVeryMany(t *testing.T) {
	const whole = math.MaxInt/6 + 1 // 12 times it is 0 or little more in a number of the machine's size
	numbers := []int{math.MaxInt, math.MaxInt - 1, math.MaxInt / 2, math.MaxInt / 3, math.MaxInt/4 + 1, math.MaxInt / 12, math.MaxInt/12 + 1, math.MaxInt/12 + 2, whole - 1, whole, whole + 1, math.MaxInt32, math.MaxInt32/12 + 1}
	for _, n := range numbers {
		for _, b := range [][]byte{nil, {1}, put([]table.Entry{entry(7, 9)}), make([]byte, 100), make([]byte, 4096)} {
			if x := get(b, n); !x.same(got{e: api.ErrShort}) {
				t.Errorf("Get of %d of %d bytes: %v, %d, %d", n, len(b), x.returned, x.at, x.e)
			}
		}
	}
}

// P11.2: bytes cut off at each place: none is read, where one is wanting.
func TestGetOfBytesThatAreCutOff(t *testing.T) {
	for _, l := range rows() {
		b := put(l)
		for size := range b {
			if x := get(b[:size], len(l)); !x.same(got{e: api.ErrShort}) {
				t.Errorf("Get of %d of %d bytes: %v", len(l), size, x)
			}
			expectGet(t, b[:size], size/12)
			expectGet(t, b[:size], size/12+1)
		}
	}
}

// P11.2: entries that don't rise stop it behind them; if bytes are wanting, too, that is told, and none is read.
func TestGetOfEntriesThatDoNotRise(t *testing.T) {
	for _, l := range wrong() {
		b := put(l)
		for _, behind := range [][]byte{nil, {0}, put([]table.Entry{entry(most, mostA)})} {
			if x := get(join(b, behind), len(l)); !x.same(got{at: 12 * len(l), e: api.ErrOrder}) {
				t.Errorf("Get of %v: %v", l, x)
			}
		}
		for n := range len(l) {
			expectGet(t, b, n) // the beginning may rise
		}
		if x := get(b, len(l)+1); !x.same(got{e: api.ErrShort}) {
			t.Errorf("Get of one more than %v: %v", l, x)
		}
		if x := get(b[:len(b)-1], len(l)); !x.same(got{e: api.ErrShort}) {
			t.Errorf("Get of %v without its last byte: %v", l, x)
		}
	}
}

// P11.2: any bytes by any number.
func TestGetOfAnyBytes(t *testing.T) {
	r := rand.New(rand.NewPCG(11, 5))
	for range 5000 {
		b := put(some(r, r.IntN(4)))
		if r.IntN(2) == 0 {
			b = put(sorted(some(r, r.IntN(6))))
		}
		for range r.IntN(3) {
			b = append(b, byte(r.IntN(256)))
		}
		for n := -1; n <= len(b)/12+2; n++ {
			expectGet(t, b, n)
		}
	}
}

// P11.2: within a reading it goes on behind what was read, and others go on behind it.
func TestGetOneBehindTheOther(t *testing.T) {
	first, second := []table.Entry{entry(8, 1), entry(9, 0)}, []table.Entry{entry(2, 2)}
	b := join([]byte{7}, put(first), put(second), []byte{6})
	at, e := cursor.Run(b, func(c *cursor.Cursor) {
		if c.Byte() != 7 {
			t.Error("the byte ahead")
		}
		if l := table.Get(c, 2); !slices.Equal(l, first) || c.At() != 25 {
			t.Errorf("the first ones: %v, %d", l, c.At())
		}
		if l := table.Get(c, 0); len(l) != 0 || c.At() != 25 {
			t.Errorf("none: %v, %d", l, c.At())
		}
		if l := table.Get(c, 1); !slices.Equal(l, second) || c.At() != 37 { // below the first ones: each Get is of its own
			t.Errorf("the second one: %v, %d", l, c.At())
		}
		if c.Byte() != 6 {
			t.Error("the byte behind")
		}
		c.End()
	})
	if at != len(b) || e != api.OK {
		t.Errorf("%d, %d", at, e)
	}
}

// P11.2: behind a stop nothing is done any more; what can still be read shows how far it went.
func TestGetStopsItsReading(t *testing.T) {
	for _, c := range []struct {
		name string
		l    []table.Entry
		n    int
		left int // of the bytes, when it stopped
		e    api.Errno
	}{
		{"too few", []table.Entry{entry(1, 1)}, 2, 12 + 3, api.ErrShort},
		{"far too few", []table.Entry{entry(1, 1)}, math.MaxInt, 12 + 3, api.ErrShort},
		{"the same one twice", []table.Entry{entry(1, 1), entry(1, 1)}, 2, 3, api.ErrOrder},
		{"one that falls", []table.Entry{entry(2, 1), entry(1, 1)}, 2, 3, api.ErrOrder},
	} {
		b := join([]byte{7}, put(c.l), []byte{1, 2, 3})
		left := -1
		at, e := cursor.Run(b, func(r *cursor.Cursor) {
			defer func() { left = r.Left() }()
			r.Byte()
			table.Get(r, c.n)
			t.Errorf("%s: it went on", c.name)
		})
		if left != c.left || at != len(b)-c.left || e != c.e {
			t.Errorf("%s: %d are left, %d were read, %d", c.name, left, at, e)
		}
	}
}

// P11.2: a reading that stopped stays stopped, for the same reason, whatever a deferred call of it asks for.
func TestGetBehindAStop(t *testing.T) {
	for _, n := range []int{-1, 0, 1, 2, 3, math.MaxInt} {
		at, e := cursor.Run(put(wrong()[4]), func(c *cursor.Cursor) {
			defer func() {
				if l := table.Get(c, n); len(l) != 0 {
					t.Errorf("Get of %d behind a stop: %v", n, l)
				}
			}()
			c.Fail(api.ErrSum)
		})
		if at != 0 || e != api.ErrSum {
			t.Errorf("Get of %d behind a stop: %d, %d", n, at, e)
		}
	}
}

// expectOutside asks a cursor outside of its reading for entries: there are none, and nothing happens.
func expectOutside(t *testing.T, what string, c *cursor.Cursor) {
	t.Helper()
	for _, n := range []int{math.MinInt, -1, 0, 1, 2, 1 << 20, math.MaxInt/12 + 1, math.MaxInt} {
		if l := table.Get(c, n); len(l) != 0 {
			t.Errorf("%s: Get of %d told %d entries", what, n, len(l))
		}
	}
}

// P11.2: outside of a reading, and of a nil cursor, there are no entries.
func TestGetOutsideOfAReading(t *testing.T) {
	expectOutside(t, "a nil cursor", nil)
	expectOutside(t, "a zero value", new(cursor.Cursor))
	var kept *cursor.Cursor
	cursor.Run(put(ends()), func(c *cursor.Cursor) {
		kept = c
		table.Get(c, 1)
	})
	expectOutside(t, "one whose reading is over", kept)
	cursor.Run(nil, func(c *cursor.Cursor) {
		kept = c
		table.Get(c, 1)
	})
	expectOutside(t, "one whose reading stopped", kept)
}

// P11.2: a stop belongs to the reading of the cursor that was asked, not to one within it.
func TestGetOfAnOuterCursor(t *testing.T) {
	inner := false
	at, e := cursor.Run(put([]table.Entry{entry(5, 5), entry(4, 4)}), func(outer *cursor.Cursor) {
		cursor.Run([]byte{1}, func(c *cursor.Cursor) {
			table.Get(outer, 2)
		})
		inner = true
	})
	if inner || at != 24 || e != api.ErrOrder {
		t.Errorf("%v, %d, %d", inner, at, e)
	}
}

// P11.3: many entries.
func TestManyEntries(t *testing.T) {
	const n = 100000
	var l []table.Entry
	for i := range n {
		l = append(l, entry(uint64(i)<<40, uint32(n-i)))
	}
	b := put(l)
	if len(b) != 12*n {
		t.Fatalf("%d bytes", len(b))
	}
	if x := get(b, n); !slices.Equal(x.l, l) || x.at != 12*n || x.e != api.OK {
		t.Errorf("%d entries, %d, %d", len(x.l), x.at, x.e)
	}
	l[n-1].Hash = l[n-2].Hash // its At is below the other's
	if x := get(put(l), n); !x.same(got{at: 12 * n, e: api.ErrOrder}) {
		t.Errorf("%d entries, %d, %d", len(x.l), x.at, x.e)
	}
}
