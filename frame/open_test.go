package frame_test

import (
	"bytes"
	"math/rand/v2"
	"testing"

	"fascicle/api"
	"fascicle/frame"
)

// expectOpen holds Open against what is to be told of any bytes; and the body that it answers, sealed, against the chunk and a nought.
func expectOpen(t *testing.T, chunk []byte) {
	t.Helper()
	want, wantE := bodyOf(chunk)
	got, e := frame.Open(chunk)
	if e != wantE || !bytes.Equal(got, want) {
		t.Fatalf("%v is opened as %v, %d; it ought to be %v, %d", chunk, got, e, want, wantE)
	}
	if e == api.OK && !bytes.Equal(frame.Seal(got), join(chunk, []byte{0})) {
		t.Fatalf("%v is opened as %v, whose frame is %v", chunk, got, frame.Seal(got))
	}
}

// expectNone holds Open, GetRecord and GetHead of a chunk that isn't opened against its error: beside it there is nothing.
func expectNone(t *testing.T, chunk []byte, want api.Errno) {
	t.Helper()
	if got, e := frame.Open(chunk); e != want || got != nil {
		t.Errorf("%s is opened as %s, %d; it ought to be error %d", begin(chunk), begin(got), e, want)
	}
	if r, e := frame.GetRecord(chunk); e != want || r != (api.Record{}) {
		t.Errorf("GetRecord of %s: %v, %d; it ought to be error %d", begin(chunk), r, e, want)
	}
	if c, n, e := frame.GetHead(chunk); e != want || c != (api.Config{}) || n != 0 {
		t.Errorf("GetHead of %s: %v, %d, %d; it ought to be error %d", begin(chunk), c, n, e, want)
	}
}

// P9.1, P9.4: the body of each frame's chunk.
func TestOpen(t *testing.T) {
	for _, body := range bodies() {
		b := frame.Seal(body)
		if got, e := frame.Open(b[:len(b)-1]); e != api.OK || !bytes.Equal(got, body) {
			t.Errorf("the chunk of %s is opened as %s, %d", begin(body), begin(got), e)
		}
		expectOpen(t, chunkOf(body))
	}
}

// P9.1: Unstuff's errors: no bytes, a nought at each place, a group that says more bytes than there are, bytes that aren't as Stuff has them.
func TestOpenOfBytesThatAreNotStuffed(t *testing.T) {
	expectNone(t, nil, api.ErrShort)
	expectNone(t, []byte{}, api.ErrShort)
	expectNone(t, []byte{1, 1}[:0], api.ErrShort)
	expectNone(t, []byte{0}, api.ErrForm)
	expectNone(t, []byte{2}, api.ErrShort)
	expectNone(t, []byte{255, 1, 1}, api.ErrShort)
	expectNone(t, []byte{255, 0, 1}, api.ErrForm)
	for _, n := range []int{0, 1, 246, 300} {
		b := frame.Seal(noNoughts(n))
		expectNone(t, b, api.ErrForm) // with its nought
		expectNone(t, join([]byte{0}, b[:len(b)-1]), api.ErrForm)
		expectNone(t, join(b, b[:len(b)-1]), api.ErrForm)
		for at := range len(b) - 1 {
			other := bytes.Clone(b[:len(b)-1])
			other[at] = 0
			expectNone(t, other, api.ErrForm)
		}
	}
	full := chunkOf(noNoughts(246)) // one group of 254 bytes
	expectNone(t, append(full, 1), api.ErrForm)
	expectNone(t, append(chunkOf(noNoughts(500)), 1), api.ErrForm)
}

// P9.1: fewer than 8 bytes have no sum, whatever they are; 8 are a sum, that of nothing or a wrong one.
func TestOpenOfFewBytes(t *testing.T) {
	r := rand.New(rand.NewPCG(9, 3))
	for n := range 8 {
		expectNone(t, stuffed(withSum(nil)[:n]), api.ErrShort)
		expectNone(t, stuffed(withSum(nil)[8-n:]), api.ErrShort)
		expectNone(t, stuffed(make([]byte, n)), api.ErrShort)
		for range 50 {
			expectNone(t, stuffed(mixed(r, n)), api.ErrShort)
		}
	}
	expectNone(t, []byte{1}, api.ErrShort)
	expectNone(t, stuffed(make([]byte, 8)), api.ErrSum)
	expectNone(t, stuffed([]byte("eight by")), api.ErrSum)
	if got, e := frame.Open(stuffed(withSum(nil))); e != api.OK || len(got) != 0 {
		t.Errorf("the sum of nothing is opened as %v, %d", got, e)
	}
	for n := 8; n < 30; n++ {
		expectNone(t, stuffed(bytes.Repeat([]byte{7}, n)), api.ErrSum)
	}
}

// P9.1: another sum: by another seed, with its highest byte first, of fewer bytes, with each of its bits another one, ahead of the body.
func TestOpenOfAnotherSum(t *testing.T) {
	for _, body := range [][]byte{{}, {1}, []byte("abc"), noNoughts(246), make([]byte, 300)} {
		b := withSum(body)
		sum := b[len(body):]
		for bit := range 64 {
			other := bytes.Clone(b)
			other[len(body)+bit/8] ^= 1 << (bit % 8)
			expectNone(t, stuffed(other), api.ErrSum)
		}
		back := bytes.Clone(sum)
		for i := range sum {
			back[7-i] = sum[i]
		}
		expectNone(t, stuffed(join(body, back)), api.ErrSum)
		expectNone(t, stuffed(join(body, []byte{0}, sum)), api.ErrSum)
		expectNone(t, stuffed(join(body, sum, []byte{0})), api.ErrSum)
		if len(body) > 0 {
			expectNone(t, stuffed(join(sum, body)), api.ErrSum)
		}
	}
}

// P9.1, P9.4: of a chunk with each of its bytes another one, or cut off at each place, no body is told; and the error is the one that is named first.
func TestOpenOfChunksThatAreOthers(t *testing.T) {
	for _, body := range [][]byte{{}, {0}, {7}, []byte("a\x00\x00b"), noNoughts(100), noNoughts(245), noNoughts(246), noNoughts(247), make([]byte, 20), append(noNoughts(254), 0), bytes.Repeat([]byte{1, 0, 2}, 90)} {
		chunk := chunkOf(body)
		for at := range chunk {
			expectOpen(t, chunk[:at])
			expectOpen(t, chunk[at+1:])
			_, e := bodyOf(chunk[:at])
			expectNone(t, chunk[:at], e)
			for x := range 256 {
				if byte(x) == chunk[at] {
					continue
				}
				other := bytes.Clone(chunk)
				other[at] = byte(x)
				expectOpen(t, other)
				if got, e := frame.Open(other); e == api.OK {
					t.Errorf("%s with %d at %d is opened as %s", begin(chunk), x, at, begin(got))
				}
			}
		}
		for x := range 256 {
			expectOpen(t, append(bytes.Clone(chunk), byte(x)))
			expectOpen(t, append([]byte{byte(x)}, chunk...))
		}
	}
}

// P9.1, P9.4: all bytes of one and two, and any bytes, stuffed ones among them; of any chunk that is opened the frame is that chunk and a nought.
func TestOpenOfAnyBytes(t *testing.T) {
	for i := range 1 << 16 {
		expectOpen(t, []byte{byte(i)})
		expectOpen(t, []byte{byte(i), byte(i >> 8)})
	}
	r := rand.New(rand.NewPCG(9, 4))
	for range 20000 {
		b := mixed(r, r.IntN(300))
		expectOpen(t, b)
		expectOpen(t, stuffed(b))
		chunk := chunkOf(b)
		for range r.IntN(3) {
			chunk[r.IntN(len(chunk))] = byte(r.IntN(256))
		}
		expectOpen(t, chunk)
	}
}
