package record_test

import (
	"bytes"
	"math"
	"math/rand/v2"
	"testing"

	"fascicle/api"
	"fascicle/record"
)

// expectError holds Read of bytes against the error that it ought to tell; beside it there is no record.
func expectError(t *testing.T, b []byte, e api.Errno) {
	t.Helper()
	if r, got := record.Read(b); got != e || r != (api.Record{}) {
		t.Errorf("%s: %s, %d; it ought to be %d", begin(b), tell(r), got, e)
	}
}

// join puts pieces one behind the other.
func join(pieces ...[]byte) []byte {
	return bytes.Join(pieces, nil)
}

// P7.2, P7.4: the record of a body is just that whose body it is.
func TestRead(t *testing.T) {
	for _, r := range samples() {
		if got, e := record.Read(written(r)); got != r || e != api.OK {
			t.Errorf("%s is read as %s, %d", tell(r), tell(got), e)
		}
	}
	want := api.Record{Seq: 1, Key: "a", Value: "b"} // the chapter's example
	if got, e := record.Read([]byte{2, 1, 1, 97, 1, 98}); got != want || e != api.OK {
		t.Errorf("the example is read as %s, %d", tell(got), e)
	}
}

// P7.4: what Body answers is read as the same record, at the edges, too.
func TestBodyIsRead(t *testing.T) {
	for _, seq := range []uint64{0, 127, 128, math.MaxUint64} {
		for _, c := range edges(seq) {
			b, e := record.Body(c.record)
			if e != api.OK {
				continue
			}
			if got, e := record.Read(b); got != c.record || e != api.OK {
				t.Errorf("%s is read as %s, %d", tell(c.record), tell(got), e)
			}
		}
	}
}

// P7.2: no bytes, nil ones, and those of each body that is cut off, at each place of a short one, at many of a long one.
func TestReadOfBytesThatAreWanting(t *testing.T) {
	expectError(t, nil, api.ErrShort)
	expectError(t, []byte{}, api.ErrShort)
	for _, r := range samples() {
		b := written(r)
		step := 1
		if len(b) > 1000 {
			step = len(b) / 7
		}
		for n := 0; n < len(b); n += step {
			expectError(t, b[:n], api.ErrShort)
		}
		for n := range min(20, len(b)) {
			expectError(t, b[:n], api.ErrShort)
			expectError(t, b[:len(b)-1-n], api.ErrShort)
		}
	}
}

// P7.2: whatever is left behind a body.
func TestReadOfBytesThatAreLeft(t *testing.T) {
	for _, r := range samples() {
		b := written(r)
		for _, behind := range [][]byte{{0}, {1}, {2}, {255}, {0, 0}, {1, 97}, written(put(1, "a", "b"))} {
			expectError(t, join(b, behind), api.ErrLong)
		}
	}
	for behind := range 256 {
		for _, r := range []api.Record{put(1, "a", "b"), put(1, "a", ""), gone(1, "a")} {
			expectError(t, append(written(r), byte(behind)), api.ErrLong)
		}
	}
}

// P7.2: a value behind the key of one that is Deleted is left, an empty one, too, and one that isn't a text.
func TestReadOfAValueOfOneThatIsDeleted(t *testing.T) {
	for _, r := range []api.Record{gone(0, "a"), gone(300, "abc"), gone(math.MaxUint64, long(4096))} {
		for _, value := range [][]byte{{0}, {1, 'b'}, {3, 'b', 'c', 'd'}, {1}, {128, 0}, {255, 255, 255, 1}} {
			expectError(t, join(written(r), value), api.ErrLong)
		}
	}
	for _, r := range []api.Record{put(1, "a", "b"), put(300, "a", "")} {
		b := written(r)
		b[0] = 3
		expectError(t, b, api.ErrLong)
	}
	b := written(gone(1, "a"))
	b[0] = 2
	expectError(t, b, api.ErrShort)
}

// P7.2: a first byte that is neither 2 nor 3, whatever follows it.
func TestReadOfAnotherFirstByte(t *testing.T) {
	behind := [][]byte{{}, {0}, {1, 1, 97, 1, 98}, {1, 1, 97}, {128, 0}, {1, 0}, bytes.Repeat([]byte{255}, 12), bytes.Repeat([]byte{1}, 5000)}
	for first := range 256 {
		if first == 2 || first == 3 {
			continue
		}
		for _, b := range behind {
			expectError(t, join([]byte{byte(first)}, b), api.ErrForm)
		}
	}
}

// wrongNumbers are texts of no number, each with Get's error.
var wrongNumbers = []struct {
	bytes []byte
	e     api.Errno
}{
	{[]byte{128, 0}, api.ErrForm},
	{[]byte{129, 0}, api.ErrForm},
	{[]byte{129, 128, 0}, api.ErrForm},
	{[]byte{255, 255, 255, 255, 255, 255, 255, 255, 255, 0}, api.ErrForm},
	{[]byte{255, 255, 255, 255, 255, 255, 255, 255, 255, 2}, api.ErrLong},
	{[]byte{128, 128, 128, 128, 128, 128, 128, 128, 128, 2}, api.ErrLong},
	{[]byte{129, 128, 128, 128, 128, 128, 128, 128, 128, 128, 0}, api.ErrLong},
	{[]byte{128, 128, 128, 128, 128, 128, 128, 128, 128, 129, 1}, api.ErrLong},
}

// P7.2: a Seq and lengths that aren't as short as can be, or not below 2^64, whatever follows them.
func TestReadOfWrongNumbers(t *testing.T) {
	for _, w := range wrongNumbers {
		for _, behind := range [][]byte{{}, {0}, {1, 97, 1, 98}, {1, 97}, {128, 0}, bytes.Repeat([]byte{97}, 5000)} {
			for first := byte(2); first <= 3; first++ {
				expectError(t, join([]byte{first}, w.bytes, behind), w.e)
				expectError(t, join([]byte{first, 1}, w.bytes, behind), w.e)
				expectError(t, join([]byte{first, 172, 2}, w.bytes, behind), w.e)
			}
			expectError(t, join([]byte{2, 1, 1, 97}, w.bytes, behind), w.e)
			expectError(t, join([]byte{2, 172, 2, 3, 97, 97, 97}, w.bytes, behind), w.e)
		}
	}
}

// greatLengths are lengths far above any bound: 2^32 - 1, 2^32 + 1, 2^63, 2^63 + 1 and 2^64 - 1.
var greatLengths = [][]byte{
	{255, 255, 255, 255, 15},
	{129, 128, 128, 128, 16},
	{128, 128, 128, 128, 128, 128, 128, 128, 128, 1},
	{129, 128, 128, 128, 128, 128, 128, 128, 128, 1},
	{255, 255, 255, 255, 255, 255, 255, 255, 255, 1},
}

// P7.2: lengths of a key outside of its bounds, whether or not so many bytes follow.
func TestReadOfAKeysLength(t *testing.T) {
	tooLong := append([][]byte{{129, 32}, {128, 64}}, greatLengths...) // 4097, 8192
	for first := byte(2); first <= 3; first++ {
		for _, behind := range [][]byte{{}, {0}, {97}, {97, 1, 98}, {128, 0}} {
			expectError(t, join([]byte{first, 1, 0}, behind), api.ErrForm)
		}
		for _, length := range tooLong {
			for _, n := range []int{0, 1, 4096, 4097, 8192} {
				expectError(t, join([]byte{first, 1}, length, bytes.Repeat([]byte{97}, n)), api.ErrLong)
				expectError(t, join([]byte{first, 1}, length, bytes.Repeat([]byte{97}, n), []byte{0}), api.ErrLong)
			}
		}
		expectError(t, []byte{first, 1, 128, 32}, api.ErrShort) // 4096
	}
}

// P7.2: lengths of a value above its bound, whether or not so many bytes follow; one of nothing may be.
func TestReadOfAValuesLength(t *testing.T) {
	tooLong := append([][]byte{{129, 128, 64}, {128, 128, 128, 1}}, greatLengths...) // 2^20 + 1, 2^21
	for _, length := range tooLong {
		for _, n := range []int{0, 1, 1 << 20, 1<<20 + 1, 1 << 21} {
			expectError(t, join([]byte{2, 1, 1, 97}, length, bytes.Repeat([]byte{98}, n)), api.ErrLong)
		}
	}
	expectError(t, []byte{2, 1, 1, 97, 128, 128, 64}, api.ErrShort) // 2^20
	if r, e := record.Read([]byte{2, 1, 1, 97, 0}); r != put(1, "a", "") || e != api.OK {
		t.Errorf("an empty value is read as %s, %d", tell(r), e)
	}
}

// P7.2: of several faults the first one from the left is told.
func TestReadTellsTheFirstFault(t *testing.T) {
	for _, c := range []struct {
		bytes []byte
		e     api.Errno
	}{
		{[]byte{0, 128, 0, 0, 128, 0}, api.ErrForm},                                 // the first byte, all others
		{[]byte{4}, api.ErrForm},                                                    // the first byte, bytes are wanting
		{[]byte{2, 129, 0, 129, 32}, api.ErrForm},                                   // the Seq, the key is too long
		{[]byte{3, 255, 255, 255, 255, 255, 255, 255, 255, 255, 2, 0}, api.ErrLong}, // the Seq, the key is empty
		{[]byte{2, 128}, api.ErrShort},                                              // the Seq is cut off
		{[]byte{2, 1, 0, 129, 128, 64}, api.ErrForm},                                // the key is empty, the value too long
		{[]byte{3, 1, 0, 0}, api.ErrForm},                                           // the key is empty, bytes are left
		{[]byte{3, 1, 129, 32, 97}, api.ErrLong},                                    // the key is too long, and bytes of it are wanting
		{[]byte{2, 1, 129, 32, 97, 128, 0}, api.ErrLong},                            // the key is too long, the value's length no number
		{[]byte{2, 1, 128, 0}, api.ErrForm},                                         // the key's length, whatever it would be, is no number
		{[]byte{2, 1, 2, 97}, api.ErrShort},                                         // bytes of the key are wanting, and the value
		{[]byte{2, 1, 1, 97, 128, 0, 1, 2}, api.ErrForm},                            // the value's length, bytes are left
		{[]byte{2, 1, 1, 97, 129, 128, 64, 98}, api.ErrLong},                        // the value is too long, and bytes of it are wanting
		{[]byte{2, 1, 1, 97, 2, 98}, api.ErrShort},                                  // bytes of the value are wanting
		{[]byte{2, 1, 1, 97, 1, 98, 128, 0}, api.ErrLong},                           // bytes are left
		{[]byte{3, 1, 1, 97, 128, 0}, api.ErrLong},                                  // bytes are left, where a value would be wrong
	} {
		expectError(t, c.bytes, c.e)
	}
}

// number works out, of bytes, the number with which they begin, what stands behind it, and the error.
func number(b []byte) (x uint64, behind []byte, e api.Errno) {
	for i := range 10 {
		switch {
		case i == len(b):
			return 0, nil, api.ErrShort
		case i == 9 && b[i] > 1:
			return 0, nil, api.ErrLong
		case i > 0 && b[i] == 0:
			return 0, nil, api.ErrForm
		}
		x += uint64(b[i]%128) << (7 * i)
		if b[i] < 128 {
			return x, b[i+1:], api.OK
		}
	}
	return 0, nil, api.ErrLong
}

// text works out, of bytes, the text with which they begin, what stands behind it, and the error.
func text(b []byte, least, most uint64) (s string, behind []byte, e api.Errno) {
	n, b, e := number(b)
	switch {
	case e != api.OK:
		return "", nil, e
	case n > most:
		return "", nil, api.ErrLong
	case n < least:
		return "", nil, api.ErrForm
	case n > uint64(len(b)):
		return "", nil, api.ErrShort
	}
	return string(b[:n]), b[n:], api.OK
}

// toldOf works out, piece by piece, what is to be told of bytes.
func toldOf(b []byte) (r api.Record, e api.Errno) {
	if len(b) == 0 {
		return r, api.ErrShort
	}
	if b[0] < 2 || b[0] > 3 {
		return r, api.ErrForm
	}
	seq, behind, e := number(b[1:])
	if e != api.OK {
		return r, e
	}
	key, behind, e := text(behind, 1, 4096)
	if e != api.OK {
		return r, e
	}
	value := ""
	if b[0] == 2 {
		if value, behind, e = text(behind, 0, 1<<20); e != api.OK {
			return r, e
		}
	}
	if len(behind) > 0 {
		return r, api.ErrLong
	}
	return api.Record{Delete: b[0] == 3, Seq: seq, Key: key, Value: value}, api.OK
}

// expectRead holds Read of any bytes against what is to be told of them; of those that are read Body answers just them.
func expectRead(t *testing.T, b []byte) {
	t.Helper()
	got, gotE := record.Read(b)
	if want, e := toldOf(b); got != want || gotE != e {
		t.Fatalf("%s: %s, %d; it ought to be %s, %d", begin(b), tell(got), gotE, tell(want), e)
	}
	if gotE != api.OK {
		return
	}
	if again, e := record.Body(got); !bytes.Equal(again, b) || e != api.OK || record.Size(got) != len(b) {
		t.Fatalf("%s is read, but its record's body is %s, %d, its Size %d", begin(b), begin(again), e, record.Size(got))
	}
}

// P7.2, P7.4: all rows of up to six bytes of some that matter.
func TestReadOfAllShortBytes(t *testing.T) {
	some := []byte{0, 1, 2, 3, 4, 97, 127, 128, 129, 255}
	var all func(b []byte)
	all = func(b []byte) {
		expectRead(t, b)
		if len(b) == 6 {
			return
		}
		for _, x := range some {
			all(append(b, x))
		}
	}
	all(nil)
}

// P7.2, P7.4: bodies with bytes changed, cut out or put in, and any bytes behind a good beginning.
func TestReadOfAnyBytes(t *testing.T) {
	r := rand.New(rand.NewPCG(1, 7))
	for range 200000 {
		b := written(someRecord(r))
		for range r.IntN(3) {
			i := r.IntN(len(b))
			switch r.IntN(3) {
			case 0:
				b[i] ^= 1 << r.IntN(8)
			case 1:
				b = append(b[:i:i], append([]byte{byte(r.IntN(256))}, b[i:]...)...)
			default:
				b = append(b[:i:i], b[min(len(b), i+1+r.IntN(3)):]...)
			}
			if len(b) == 0 {
				break
			}
		}
		expectRead(t, b)
	}
	for range 100000 {
		b := []byte{byte(r.IntN(5)), byte(r.IntN(256)), byte(r.IntN(256))}
		for range r.IntN(10) {
			b = append(b, byte(r.IntN(256))>>r.IntN(9))
		}
		expectRead(t, b)
	}
}

// someRecord gives any record with a short key and a short value that may be.
func someRecord(r *rand.Rand) api.Record {
	texts := func(n int) string {
		b := make([]byte, n)
		for i := range b {
			b[i] = byte(r.IntN(256)) >> r.IntN(9)
		}
		return string(b)
	}
	x := api.Record{Delete: r.IntN(2) == 0, Seq: r.Uint64() >> r.IntN(65), Key: texts(1 + r.IntN(6))}
	if r.IntN(20) == 0 {
		x.Key = texts(120 + r.IntN(20))
	}
	if !x.Delete {
		x.Value = texts(r.IntN(1 + r.IntN(200)))
	}
	return x
}
