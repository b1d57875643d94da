package frame_test

import (
	"bytes"
	"math"
	"math/rand/v2"
	"testing"

	"fascicle/api"
	"fascicle/cobs"
	"fascicle/frame"
)

// P9.1: the chapter's example, and frames that were worked out by hand of sums that are known.
func TestSealOfKnownBodies(t *testing.T) {
	nothing := []byte{9, 0x99, 0xe9, 0xd8, 0x51, 0x37, 0xdb, 0x46, 0xef, 0}
	for _, b := range [][]byte{nil, {}, []byte{1, 2}[:0]} {
		if got := frame.Seal(b); !bytes.Equal(got, nothing) {
			t.Errorf("Seal of nothing: %v; it ought to be %v", got, nothing)
		}
	}
	abc := []byte{12, 'a', 'b', 'c', 0x99, 0x09, 0x77, 0xad, 0xf5, 0x2c, 0xbc, 0x44, 0}
	if got := frame.Seal([]byte("abc")); !bytes.Equal(got, abc) {
		t.Errorf("Seal of abc: %v; it ought to be %v", got, abc)
	}
}

// P9.1: the frame of a body, at the edges of stuffing.
func TestSeal(t *testing.T) {
	for _, body := range bodies() {
		if got := frame.Seal(body); !bytes.Equal(got, frameOf(body)) {
			t.Errorf("Seal of %s: %s; it ought to be %s", begin(body), begin(got), begin(frameOf(body)))
		}
	}
}

// P9.4: a frame has one nought, its last byte; and no more bytes than Size says.
func TestFrameHasOneNought(t *testing.T) {
	for _, body := range bodies() {
		b := frame.Seal(body)
		if at := bytes.IndexByte(b, 0); at != len(b)-1 {
			t.Errorf("the first nought of the frame of %s stands at %d of %d bytes", begin(body), at, len(b))
		}
		if len(b) > frame.Size(len(body)) {
			t.Errorf("the frame of %s has %d bytes; Size says %d", begin(body), len(b), frame.Size(len(body)))
		}
	}
}

// P9.1: a frame has just as many bytes as Size says where there is no nought in the body and its sum.
func TestSizeIsReached(t *testing.T) {
	for _, n := range lengths() {
		if b := frame.Seal(noNoughts(n)); len(b) != frame.Size(n) {
			t.Errorf("a frame of a body of %d bytes without noughts has %d bytes; Size says %d", n, len(b), frame.Size(n))
		}
	}
}

// P9.1: as many as Most says of so many bytes and a sum, and the nought; below 0 as 0.
func TestSize(t *testing.T) {
	for n, want := range map[int]int{
		math.MinInt: 10, math.MinInt32: 10, -255: 10, -9: 10, -8: 10, -2: 10, -1: 10,
		0: 10, 1: 11, 2: 12,
		245: 255, 246: 256, 247: 258, 248: 259,
		499: 510, 500: 511, 501: 513,
		1 << 20: 1<<20 + 8 + 1 + 4128 + 1,
	} {
		if got := frame.Size(n); got != want {
			t.Errorf("Size of %d: %d; it ought to be %d", n, got, want)
		}
	}
	for n := range 3000 {
		if got, want := frame.Size(n), cobs.Most(n+8)+1; got != want {
			t.Errorf("Size of %d: %d; it ought to be %d", n, got, want)
		}
	}
}

// P9.1, P9.4: any body is sealed as the model has it, and its chunk is opened as that body.
func TestSealOfAnyBody(t *testing.T) {
	r := rand.New(rand.NewPCG(9, 2))
	for range 3000 {
		body := mixed(r, r.IntN(600))
		b := frame.Seal(body)
		if !bytes.Equal(b, frameOf(body)) {
			t.Fatalf("Seal of %v: %v; it ought to be %v", body, b, frameOf(body))
		}
		if got, e := frame.Open(b[:len(b)-1]); e != api.OK || !bytes.Equal(got, body) {
			t.Fatalf("the chunk of %v is opened as %v, %d", body, got, e)
		}
	}
}
