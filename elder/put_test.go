package elder_test

import (
	"bytes"
	"slices"
	"testing"

	"fascicle/api"
	"fascicle/elder"
)

// examples are pairs and their bytes, the sums worked out by a program other than this one.
var examples = []struct {
	pair  elder.Pair
	bytes []byte
}{
	{elder.Pair{Key: "a"}, []byte{1, 0, 0, 0, 0, 0, 0, 0, 97, 212, 218, 168, 28}}, // the chapter's example
	{elder.Pair{Key: "a", Value: "1"}, []byte{1, 0, 0, 0, 1, 0, 0, 0, 97, 49, 122, 131, 1, 13}},
	{elder.Pair{Key: "bc"}, []byte{2, 0, 0, 0, 0, 0, 0, 0, 98, 99, 117, 188, 200, 129}},
	{elder.Pair{Key: "ab", Value: "cde"}, []byte{2, 0, 0, 0, 3, 0, 0, 0, 97, 98, 99, 100, 101, 214, 47, 149, 205}},
	{elder.Pair{Key: "\x00", Value: "\xff\x00"}, []byte{1, 0, 0, 0, 2, 0, 0, 0, 0, 255, 0, 130, 209, 189, 172}},
}

// ends are the lengths of a key and a value, both of x alone, with the first eight bytes and the last four, worked out likewise.
var ends = []struct {
	key, value  int
	first, last []byte
}{
	{255, 0, []byte{255, 0, 0, 0, 0, 0, 0, 0}, []byte{8, 185, 207, 69}},
	{256, 65536, []byte{0, 1, 0, 0, 0, 0, 1, 0}, []byte{136, 127, 29, 78}},
	{258, 66051, []byte{2, 1, 0, 0, 3, 2, 1, 0}, []byte{152, 153, 147, 244}},
	{4096, 0, []byte{0, 16, 0, 0, 0, 0, 0, 0}, []byte{250, 106, 85, 153}},
	{4096, 1 << 20, []byte{0, 16, 0, 0, 0, 0, 16, 0}, []byte{57, 40, 159, 5}},
}

// P10.1: the chapter's example and others, byte for byte.
func TestPutExamples(t *testing.T) {
	for _, c := range examples {
		if b, e := elder.Put(c.pair); !bytes.Equal(b, c.bytes) || e != api.OK {
			t.Errorf("%s: %v, %d; it ought to be %v", tell(c.pair), b, e, c.bytes)
		}
	}
	for _, c := range ends {
		b, e := elder.Put(pair(long(c.key), long(c.value)))
		n := 8 + c.key + c.value
		if e != api.OK || len(b) != n+4 {
			t.Fatalf("of %d and %d bytes there are %d, %d", c.key, c.value, len(b), e)
		}
		if !bytes.Equal(b[:8], c.first) || !bytes.Equal(b[8:n], []byte(long(c.key+c.value))) || !bytes.Equal(b[n:], c.last) {
			t.Errorf("of %d and %d bytes they begin with %v and end with %v; it ought to be %v and %v", c.key, c.value, b[:8], b[n:], c.first, c.last)
		}
	}
}

// P10.1: the bytes of each pair that may be.
func TestPut(t *testing.T) {
	for _, p := range samples() {
		if b, e := elder.Put(p); !bytes.Equal(b, written(p)) || e != api.OK {
			t.Errorf("%s: %s, %d; it ought to be %s", tell(p), begin(b), e, begin(written(p)))
		}
	}
}

// P10.1, R3: of pairs at the bounds their bytes, or Check's error and no bytes beside it.
func TestPutAtTheEdges(t *testing.T) {
	for _, c := range edges() {
		b, e := elder.Put(c.pair)
		if e != c.e {
			t.Errorf("%s: %d; it ought to be %d", tell(c.pair), e, c.e)
		}
		if c.e != api.OK && b != nil {
			t.Errorf("%s: %s beside an error", tell(c.pair), begin(b))
		}
		if c.e == api.OK && !bytes.Equal(b, written(c.pair)) {
			t.Errorf("%s: %s; it ought to be %s", tell(c.pair), begin(b), begin(written(c.pair)))
		}
	}
}

// expectPutAll holds PutAll of pairs against what it ought to tell.
func expectPutAll(t *testing.T, l []elder.Pair, want []byte, wantE api.Errno) {
	t.Helper()
	b, e := elder.PutAll(l)
	if !bytes.Equal(b, want) || e != wantE {
		t.Errorf("of %d pairs: %s, %d; it ought to be %s, %d", len(l), begin(b), e, begin(want), wantE)
	}
	if e != api.OK && b != nil {
		t.Errorf("of %d pairs: %s beside an error", len(l), begin(b))
	}
}

// P10.1: the bytes of no pairs, of one, of several, one behind the other.
func TestPutAll(t *testing.T) {
	expectPutAll(t, nil, nil, api.OK)
	expectPutAll(t, []elder.Pair{}, nil, api.OK)
	var l []elder.Pair
	var all []byte
	for _, c := range examples {
		expectPutAll(t, []elder.Pair{c.pair}, c.bytes, api.OK)
		l, all = append(l, c.pair), append(all, c.bytes...)
		expectPutAll(t, l, all, api.OK)
	}
	for _, l := range short() {
		expectPutAll(t, l, row(l), api.OK)
	}
	expectPutAll(t, samples(), row(samples()), api.OK)
}

// P10.1: of a row in which one pair may not be its error is told, wherever it stands.
func TestPutAllOfAPairThatMayNotBe(t *testing.T) {
	may := []elder.Pair{pair("a", "1"), pair("bc", ""), pair("a", "2"), pair(long(4096), "")}
	for _, c := range edges() {
		if c.e == api.OK {
			continue
		}
		for i := range len(may) + 1 {
			expectPutAll(t, slices.Insert(slices.Clone(may), i, c.pair), nil, c.e)
		}
	}
}

// P10.1, R2: of a row in which several pairs may not be the first one's error is told.
func TestPutAllTellsTheFirstFault(t *testing.T) {
	may, empty := pair("a", "1"), pair("", "v")
	for _, tooLong := range []elder.Pair{pair(long(4097), ""), pair("k", long(1<<20+1)), pair(long(4097), long(1<<20+1))} {
		for _, c := range []struct {
			l []elder.Pair
			e api.Errno
		}{
			{[]elder.Pair{empty, tooLong}, api.ErrForm},
			{[]elder.Pair{tooLong, empty}, api.ErrLong},
			{[]elder.Pair{may, empty, may, tooLong}, api.ErrForm},
			{[]elder.Pair{may, tooLong, may, empty}, api.ErrLong},
			{[]elder.Pair{empty, may, tooLong, may}, api.ErrForm},
			{[]elder.Pair{tooLong, may, empty, may}, api.ErrLong},
			{[]elder.Pair{empty, tooLong, tooLong, may}, api.ErrForm},
			{[]elder.Pair{may, may, tooLong, empty, empty}, api.ErrLong},
		} {
			expectPutAll(t, c.l, nil, c.e)
		}
	}
}
