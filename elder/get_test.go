package elder_test

import (
	"bytes"
	"math"
	"testing"

	"fascicle/api"
	"fascicle/elder"
)

// expectPair holds Get of bytes against the pair with which they ought to begin.
func expectPair(t *testing.T, b []byte, want elder.Pair, size int) {
	t.Helper()
	if p, n, e := elder.Get(b); p != want || n != size || e != api.OK {
		t.Errorf("%s: %s, %d, %d; it ought to be %s, %d", begin(b), tell(p), n, e, tell(want), size)
	}
}

// behinds are bytes that may stand behind a pair.
func behinds() [][]byte {
	return [][]byte{{}, {0}, {255}, {97}, make([]byte, 8), bytes.Repeat([]byte{255}, 20), written(pair("a", "1")), written(pair("", ""))}
}

// P10.2, P10.4: of a pair's bytes, alone and with others behind them, it is got, and how many they are.
func TestGet(t *testing.T) {
	for _, c := range examples {
		expectPair(t, c.bytes, c.pair, len(c.bytes))
	}
	for _, p := range samples() {
		b := written(p)
		for _, behind := range behinds() {
			expectPair(t, join(b, behind), p, len(b))
		}
	}
}

// P10.4: what Put answers is got, at the edges, too.
func TestPutIsGot(t *testing.T) {
	for _, c := range edges() {
		if b, e := elder.Put(c.pair); e == api.OK {
			expectPair(t, b, c.pair, 8+len(c.pair.Key)+len(c.pair.Value)+4)
		}
	}
}

// P10.2: a pair's bytes that are cut off, at each place; if its key and its value are both long, at many places.
func TestGetOfBytesThatAreCutOff(t *testing.T) {
	for _, p := range samples() {
		b := written(p)
		for n := range b {
			if n > 9000 && n < len(b)-20 && len(p.Key) > 1 && n%1009 > 0 {
				continue
			}
			if p, size, e := elder.Get(b[:n]); p != (elder.Pair{}) || size != 0 || e != api.ErrShort {
				t.Fatalf("%s cut off behind %d: %s, %d, %d", begin(b), n, tell(p), size, e)
			}
		}
	}
}

// P10.2: fewer than 8 bytes are too few, whatever they are, even if a length that is there may not be.
func TestGetOfFewerThanEight(t *testing.T) {
	expectError(t, nil, api.ErrShort)
	for _, b := range [][]byte{
		make([]byte, 8),
		bytes.Repeat([]byte{255}, 8),
		lengths(1, 0), lengths(0, 1), lengths(4097, 0), lengths(1, 1<<20+1), lengths(math.MaxUint32, math.MaxUint32),
	} {
		for n := range 8 {
			expectError(t, b[:n], api.ErrShort)
		}
	}
	for _, c := range []struct {
		key, value uint32
		e          api.Errno
	}{
		{0, 0, api.ErrForm}, {1, 0, api.ErrShort}, {4097, 0, api.ErrLong}, {1, 1<<20 + 1, api.ErrLong},
	} {
		expectError(t, lengths(c.key, c.value), c.e) // 8 bytes are enough for these
	}
}

// follow are how many bytes may stand behind both lengths: none, some, and about as many as they say.
func follow(key, value uint32) []int {
	l := []int{0, 1, 4, 5, 100}
	if texts := uint64(key) + uint64(value); texts < 1<<22 {
		n := int(texts)
		l = append(l, max(n-1, 0), n, n+3, n+4, n+5)
	}
	return l
}

// P10.2: each length of a key with each of a value, with and without enough bytes behind them: the first fault in the chapter's order.
func TestGetOfLengths(t *testing.T) {
	keys := []struct {
		length uint32
		e      api.Errno
	}{
		{0, api.ErrForm}, {1, api.OK}, {4096, api.OK}, {4097, api.ErrLong}, {65536, api.ErrLong}, {1 << 31, api.ErrLong}, {1<<31 + 1, api.ErrLong}, {math.MaxUint32, api.ErrLong},
	}
	values := []struct {
		length uint32
		e      api.Errno
	}{
		{0, api.OK}, {1, api.OK}, {1 << 20, api.OK}, {1<<20 + 1, api.ErrLong}, {1 << 21, api.ErrLong}, {1 << 31, api.ErrLong}, {1<<31 + 1, api.ErrLong}, {math.MaxUint32, api.ErrLong},
	}
	for _, key := range keys {
		for _, value := range values {
			want := key.e
			if want == api.OK {
				want = value.e
			}
			for _, n := range follow(key.length, value.length) {
				b := join(lengths(key.length, value.length), bytes.Repeat([]byte{'x'}, n))
				if want != api.OK {
					expectError(t, b, want)
					expectError(t, sealed(b), want) // a right sum doesn't make it one that may be
					continue
				}
				if uint64(n) < uint64(key.length)+uint64(value.length)+4 {
					expectError(t, b, api.ErrShort)
				} else {
					expectError(t, b, api.ErrSum)
				}
			}
		}
	}
}

// P10.2: pairs that may not be, written nevertheless, with a right sum.
func TestGetOfPairsThatMayNotBe(t *testing.T) {
	for _, c := range edges() {
		b := written(c.pair)
		if c.e == api.OK {
			expectPair(t, b, c.pair, len(b))
			continue
		}
		for _, behind := range behinds() {
			expectError(t, join(b, behind), c.e)
		}
		for _, n := range []int{8, 9, 12, len(b) / 2, len(b) - 1} {
			expectError(t, b[:max(8, min(n, len(b)))], c.e) // it isn't asked whether there are enough bytes
		}
	}
}

// P10.2: a pair with each of its bytes another one, with nothing behind it, and with much.
func TestGetOfASpoiltPair(t *testing.T) {
	for _, p := range []elder.Pair{pair("a", ""), pair("ab", "cde"), pair("\x00", "\xff\x00"), pair(long(9), long(30))} {
		b := written(p)
		for i := range b {
			for x := range 256 {
				if byte(x) == b[i] {
					continue
				}
				spoilt := bytes.Clone(b)
				spoilt[i] = byte(x)
				if i >= 8 { // neither length is another one
					expectError(t, spoilt, api.ErrSum)
				}
				for _, behind := range behinds() {
					expectGet(t, join(spoilt, behind))
				}
			}
		}
	}
}

// P10.2: bytes of great pairs that are other ones.
func TestGetOfASpoiltGreatPair(t *testing.T) {
	for _, p := range []elder.Pair{pair(long(4096), ""), pair("k", long(1<<20)), pair(long(4096), long(1<<20))} {
		b := written(p)
		for i := 8; i < len(b); i += 1 + len(b)/17 {
			b[i] ^= 128
			expectError(t, b, api.ErrSum)
			b[i] ^= 128
		}
		for i := len(b) - 5; i < len(b); i++ {
			b[i]++
			expectError(t, b, api.ErrSum)
			b[i]--
		}
		expectPair(t, b, p, len(b))
	}
}

// P10.2: the sum is that of all ahead of it by the seed 0, its lowest byte first.
func TestGetOfOtherSums(t *testing.T) {
	b := written(pair("ab", "cde"))
	n := len(b) - 4
	for _, sum := range [][]byte{
		{b[n+3], b[n+2], b[n+1], b[n]},
		{0, 0, 0, 0},
		{255, 255, 255, 255},
		sealed(b[8:n])[n-8:],  // that of the key and the value alone
		sealed(b[:n-1])[n-1:], // that of all but the last byte
	} {
		expectError(t, join(b[:n], sum), api.ErrSum)
	}
}

// P10.2, R2: of several faults at once the one that the chapter names first.
func TestGetTellsTheFirstFault(t *testing.T) {
	great := uint32(math.MaxUint32)
	for _, c := range []struct {
		bytes []byte
		e     api.Errno
	}{
		{lengths(0, great)[:7], api.ErrShort},                                // fewer than 8, the key is empty
		{lengths(great, great)[:5], api.ErrShort},                            // fewer than 8, the key is too long
		{lengths(0, 1<<20+1), api.ErrForm},                                   // the key is empty, the value too long, bytes are wanting
		{join(lengths(0, great), make([]byte, 40)), api.ErrForm},             // the key is empty, the value too long
		{join(lengths(0, 0), []byte{1, 2, 3, 4}), api.ErrForm},               // the key is empty, another sum
		{lengths(0, 5), api.ErrForm},                                         // the key is empty, bytes are wanting
		{lengths(4097, 5), api.ErrLong},                                      // the key is too long, bytes are wanting
		{lengths(4097, 1<<20+1), api.ErrLong},                                // both are too long, bytes are wanting
		{join(lengths(4097, 0), make([]byte, 4097+4)), api.ErrLong},          // the key is too long, another sum
		{lengths(1, 1<<20+1), api.ErrLong},                                   // the value is too long, bytes are wanting
		{join(lengths(1, 1<<20+1), make([]byte, 1<<20+1+5)), api.ErrLong},    // the value is too long, another sum
		{join(lengths(4096, 1<<20), make([]byte, 4096+1<<20)), api.ErrShort}, // bytes are wanting, another sum
		{join(lengths(1, 0), []byte{97, 1, 2, 3}), api.ErrShort},             // likewise
		{join(lengths(2, 0), []byte{97, 1, 2, 3, 4}), api.ErrShort},          // likewise
		{join(lengths(1, 0), []byte{97, 1, 2, 3, 4}), api.ErrSum},
	} {
		expectError(t, c.bytes, c.e)
	}
}
