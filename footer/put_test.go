package footer_test

import (
	"bytes"
	"math"
	"math/rand/v2"
	"testing"

	"fascicle/api"
	"fascicle/footer"
	"fascicle/frame"
)

// expectPut holds Put of a footer that may be against its frame, which is got again.
func expectPut(t *testing.T, f footer.Footer) {
	t.Helper()
	b, e := footer.Put(f)
	if want := frameOf(f); e != api.OK || !bytes.Equal(b, want) {
		t.Fatalf("Put of %s: %s, %d; it ought to be %s", show(f), begin(b), e, begin(want))
	}
	if len(b) > footer.Most(len(f.Table)) {
		t.Errorf("the frame of %d entries has %d bytes; Most says %d", len(f.Table), len(b), footer.Most(len(f.Table)))
	}
	if at := bytes.IndexByte(b, 0); at != len(b)-1 {
		t.Errorf("the first nought of the frame of %s stands at %d of %d bytes", show(f), at, len(b))
	}
	if got, e := footer.Get(b[:len(b)-1]); e != api.OK || !same(got, f) {
		t.Errorf("Put of %s is got as %s, %d", show(f), show(got), e)
	}
}

// P13.1: the body of a footer, worked out by hand.
func TestPutOfAKnownFooter(t *testing.T) {
	b, e := footer.Put(of(0x01020304, entry(0x0807060504030201, 300), entry(0xffeeddccbbaa9988, 0x00ffffff)))
	if e != api.OK || len(b) == 0 {
		t.Fatalf("%v, %d", b, e)
	}
	body, e := frame.Open(b[:len(b)-1])
	want := []byte{
		4,
		2, 0, 0, 0,
		4, 3, 2, 1,
		1, 2, 3, 4, 5, 6, 7, 8, 44, 1, 0, 0,
		0x88, 0x99, 0xaa, 0xbb, 0xcc, 0xdd, 0xee, 0xff, 255, 255, 255, 0,
		1, 2, 3, 4, 5, 6, 7, 8,
	}
	if e != api.OK || !bytes.Equal(body, want) {
		t.Errorf("the body: %v, %d; it ought to be %v", body, e, want)
	}
}

// P13.1: behind 17 entries there are two fences, the first Hash and the seventeenth.
func TestPutOfTwoFences(t *testing.T) {
	f := of(100, by(17, func(i int) uint64 { return uint64(i + 5) })...)
	b, e := footer.Put(f)
	if e != api.OK || len(b) == 0 {
		t.Fatalf("%v, %d", b, e)
	}
	body, e := frame.Open(b[:len(b)-1])
	if want := []byte{5, 0, 0, 0, 0, 0, 0, 0, 21, 0, 0, 0, 0, 0, 0, 0}; e != api.OK || len(body) != 9+12*17+16 || !bytes.Equal(body[9+12*17:], want) {
		t.Errorf("the body: %s, %d", begin(body), e)
	}
}

// P13.1, P13.4: the frame of each footer that may be, byte for byte; what is put is got.
func TestPut(t *testing.T) {
	for _, f := range footers() {
		expectPut(t, f)
	}
	for n := 1; n < 130; n++ {
		expectPut(t, of(mostA, by(n, func(i int) uint64 { return uint64(i) * 0x0101010101010101 })...))
	}
}

// P13.1, P13.4: any footers.
func TestPutOfAnyFooters(t *testing.T) {
	r := rand.New(rand.NewPCG(13, 2))
	for range 1000 {
		expectPut(t, some(r, 200))
	}
}

// P13.1: of a footer that may not be there are no bytes, but Check's error.
func TestPutOfFootersThatMayNotBe(t *testing.T) {
	for _, c := range wrong() {
		if b, e := footer.Put(c.f); e != c.e || b != nil {
			t.Errorf("Put of %s: %s, %d; it ought to be error %d", show(c.f), begin(b), e, c.e)
		}
	}
	l := great(1<<20 + 1)
	for _, used := range []uint32{0, 5, 1 << 20, 1<<20 + 1, mostA} {
		if b, e := footer.Put(of(used, l...)); e != api.ErrLong || b != nil {
			t.Errorf("Put of one entry too many, Used %d: %s, %d", used, begin(b), e)
		}
	}
}

// P13.1, P13.4: as many entries as may be.
func TestPutOfVeryMany(t *testing.T) {
	f := of(1<<20, great(1<<20)...)
	b, e := footer.Put(f)
	if e != api.OK || !bytes.Equal(b, frameOf(f)) || len(b) > footer.Most(1<<20) {
		t.Fatalf("Put of 2^20 entries: %s, %d", begin(b), e)
	}
	if got, e := footer.Get(b[:len(b)-1]); e != api.OK || !same(got, f) {
		t.Errorf("2^20 entries are got as %s, %d", show(got), e)
	}
}

// P13.1: the chapter's example, and numbers worked out by hand; below 0 as 0.
func TestMost(t *testing.T) {
	for n, want := range map[int]int{
		math.MinInt: 19, math.MinInt + 1: 19, math.MinInt / 8: 19, math.MinInt/12 - 1: 19, math.MinInt32: 19, -16: 19, -1: 19,
		0:       19,
		1:       39,
		2:       51,
		15:      207,
		16:      219,
		17:      239,
		18:      251,
		19:      264,
		32:      420,
		33:      440,
		100:     1280,
		1 << 20: 13158822,
	} {
		if got := footer.Most(n); got != want {
			t.Errorf("Most of %d: %d; it ought to be %d", n, got, want)
		}
	}
}

// P13.1: as many as Size says of the bytes of a body of so many entries.
func TestMostIsSize(t *testing.T) {
	for n := 1; n < 3000; n++ {
		body := 9 + 12*n + 8*((n+15)/16)
		if got, want := footer.Most(n), frame.Size(body); got != want {
			t.Errorf("Most of %d: %d; it ought to be %d", n, got, want)
		}
		if n < 200 {
			if got, want := len(bodyOf(of(0, great(n)...))), body; got != want {
				t.Errorf("the model's body of %d entries has %d bytes; it ought to have %d", n, got, want)
			}
		}
	}
}

// P13.1: it is reached: where a body has few bytes, each of its frames has just as many.
func TestMostIsReached(t *testing.T) {
	for n := 1; n <= 18; n++ {
		for _, rule := range rules() {
			if b, e := footer.Put(of(1000, by(n, rule)...)); e != api.OK || len(b) != footer.Most(n) {
				t.Errorf("a frame of %d entries has %d bytes, %d; Most says %d", n, len(b), e, footer.Most(n))
			}
		}
	}
}
