package elder_test

import (
	"bytes"
	"math/rand/v2"
	"slices"
	"testing"

	"fascicle/api"
	"fascicle/elder"
)

// starts are where each pair of a row begins, and where the last one ends.
func starts(l []elder.Pair) []int {
	at := []int{0}
	for _, p := range l {
		at = append(at, at[len(at)-1]+len(written(p)))
	}
	return at
}

// P10.3: all pairs of no bytes, and of rows of pairs; how many bytes they have; nothing follows.
func TestGetAll(t *testing.T) {
	expectAll(t, nil, nil, 0, api.OK)
	expectAll(t, []byte{}, nil, 0, api.OK)
	for _, l := range append(short(), samples()) {
		b := row(l)
		expectAll(t, b, l, len(b), api.OK)
	}
	var l []elder.Pair
	var all []byte
	for _, c := range examples {
		l, all = append(l, c.pair), append(all, c.bytes...)
		expectAll(t, all, l, len(all), api.OK)
	}
}

// P10.3: many pairs, of the same keys, too, in their order.
func TestGetAllOfManyPairs(t *testing.T) {
	var l []elder.Pair
	for i := range 50000 {
		l = append(l, pair(string([]byte{'k', byte(i % 7)}), long(i%40)))
	}
	b := row(l)
	expectAll(t, b, l, len(b), api.OK)
	expectAll(t, b[:len(b)-1], l[:len(l)-1], starts(l)[len(l)-1], api.ErrShort)
}

// P10.3: rows that are cut off, at each place: the pairs ahead of it; where one ends there nothing is wrong.
func TestGetAllOfBytesThatAreCutOff(t *testing.T) {
	for _, l := range short() {
		b, at := row(l), starts(l)
		for n := range len(b) + 1 {
			whole, cut := slices.BinarySearch(at, n)
			if cut {
				expectAll(t, b[:n], l[:whole], n, api.OK)
			} else {
				expectAll(t, b[:n], l[:whole-1], at[whole-1], api.ErrShort)
			}
		}
	}
}

// P10.3: each byte of the first pair, of a middle one and of the last one spoilt: the pairs ahead of it, their bytes, and Get's error of what follows, even if there are pairs behind it.
func TestGetAllOfASpoiltPair(t *testing.T) {
	for _, l := range short() {
		b, at := row(l), starts(l)
		for i := range l {
			for j := at[i]; j < at[i+1]; j++ {
				for _, by := range []byte{1, 2, 16, 128, 255} {
					spoilt := bytes.Clone(b)
					spoilt[j] ^= by
					_, _, e := toldOf(spoilt[at[i]:])
					if e == api.OK {
						t.Fatalf("%s is a pair in spite of a fault", begin(spoilt[at[i]:]))
					}
					expectAll(t, spoilt, l[:i], at[i], e)
				}
			}
		}
	}
}

// P10.3: each error that Get has, behind no pairs, one and several, with pairs behind it.
func TestGetAllOfWhatIsNoPair(t *testing.T) {
	wrong := []struct {
		bytes []byte
		e     api.Errno
	}{
		{[]byte{0}, api.ErrShort},
		{make([]byte, 7), api.ErrShort},
		{lengths(1, 0), api.ErrShort},
		{lengths(4096, 1<<20), api.ErrShort},
		{make([]byte, 8), api.ErrForm},
		{written(pair("", "")), api.ErrForm},
		{written(pair("", "a value")), api.ErrForm},
		{lengths(4097, 0), api.ErrLong},
		{written(pair(long(4097), "")), api.ErrLong},
		{lengths(1, 1<<20+1), api.ErrLong},
		{bytes.Repeat([]byte{255}, 20), api.ErrLong},
		{join(lengths(1, 0), []byte("a1234")), api.ErrSum},
	}
	for _, l := range short() {
		b := row(l)
		for _, w := range wrong {
			expectAll(t, join(b, w.bytes), l, len(b), w.e)
			if w.e != api.ErrShort { // of which what is behind it might be a part
				expectAll(t, join(b, w.bytes, row(short()[2])), l, len(b), w.e)
			}
		}
	}
}

// expectBack: PutAll of what GetAll told is the bytes so far, and GetAll tells of any bytes what the model does.
func expectBack(t *testing.T, b []byte) {
	t.Helper()
	want, size, wantE := allOf(b)
	expectAll(t, b, want, size, wantE)
	l, n, _ := elder.GetAll(b)
	if back, e := elder.PutAll(l); e != api.OK || !bytes.Equal(back, b[:n]) {
		t.Errorf("of %s %d pairs are got; put they are %s, %d", begin(b), len(l), begin(back), e)
	}
}

// P10.4: of rows, of these cut off and spoilt, PutAll of what GetAll told is the bytes so far: of any bytes there is at most one row of pairs.
func TestWhatIsGotIsPut(t *testing.T) {
	for _, l := range short() {
		b := row(l)
		expectBack(t, b)
		for i := range b {
			expectBack(t, b[:i])
			for x := range 256 {
				spoilt := bytes.Clone(b)
				spoilt[i] = byte(x)
				expectBack(t, spoilt)
			}
		}
	}
	expectBack(t, row(samples()))
}

// P10.2, P10.3, P10.4, R1: any bytes, many of them pairs in parts.
func TestAnyBytes(t *testing.T) {
	r := rand.New(rand.NewPCG(10, 4))
	few := func(n int) []byte {
		b := make([]byte, r.IntN(n))
		for i := range b {
			b[i] = byte(r.IntN(3))
		}
		return b
	}
	for range 20000 {
		var b []byte
		for range r.IntN(5) {
			p := pair(string(few(6)), string(few(6)))
			b = append(b, written(p)[:max(0, 12+len(p.Key)+len(p.Value)-r.IntN(12)/11)]...)
		}
		b = append(b, few(30)...)
		if len(b) > 0 && r.IntN(3) == 0 {
			b[r.IntN(len(b))] = byte(r.IntN(256))
		}
		expectGet(t, b)
		expectBack(t, b)
	}
}
