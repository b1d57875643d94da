package edge_test

import (
	"math"
	"math/big"
	"math/rand/v2"
	"testing"

	"fascicle/edge"
)

// P6.2: Ratio of ordinary counts, of none, and of those that a number doesn't hold exactly.
func TestRatio(t *testing.T) {
	for _, c := range []struct {
		part, all uint64
		want      float64
	}{
		{0, 0, 0},
		{1, 0, math.Inf(1)}, // the chapter's example
		{3, 0, math.Inf(1)},
		{math.MaxUint64, 0, math.Inf(1)},
		{0, 1, 0},
		{0, math.MaxUint64, 0},
		{1, 1, 1},
		{1, 4, 0.25},
		{1, 3, 0x1.5555555555555p-2},
		{2, 3, 0x1.5555555555555p-1},
		{1, 10, 0x1.999999999999ap-4},
		{7, 2, 3.5},
		{10, 3, 0x1.aaaaaaaaaaaabp+1},
		{1 << 53, 1, 1 << 53},
		{1<<53 + 1, 1, 1 << 53}, // midway: to the even one
		{1<<53 + 2, 1, 1<<53 + 2},
		{1<<53 + 3, 1, 1<<53 + 4},
		{1<<53 + 1, 1 << 53, 1},
		{1 << 53, 1<<53 + 1, 1},
		{1<<53 + 3, 1<<53 + 2, 0x1.0000000000001p+0},
		{1<<63 - 1, 1, 1 << 63},
		{1<<63 + 1024, 1, 1 << 63},
		{1<<63 + 1025, 1, 1<<63 + 2048},
		{math.MaxUint64, 1, 1 << 64},
		{math.MaxUint64, 1 << 63, 2},
		{math.MaxUint64, math.MaxUint64, 1},
		{math.MaxUint64, math.MaxUint64 - 1, 1},
		{math.MaxUint64 - 1024, 1, 1<<64 - 2048},
		{1, math.MaxUint64, 0x1p-64},
		{1 << 63, math.MaxUint64, 0.5},
	} {
		if got := edge.Ratio(c.part, c.all); math.Float64bits(got) != math.Float64bits(c.want) {
			t.Errorf("of %d, %d: %s; it ought to be %s", c.part, c.all, tell(got), tell(c.want))
		}
	}
}

// nearest gives the float64 that is nearest to a count.
func nearest(x uint64) *big.Rat {
	f, _ := new(big.Rat).SetInt(new(big.Int).SetUint64(x)).Float64()
	return new(big.Rat).SetFloat64(f)
}

// P6.2, P7: Ratio of any counts, worked out with whole numbers of any size; it is never a NaN, nor below 0.
func TestRatioOfAny(t *testing.T) {
	r := rand.New(rand.NewPCG(3, 6))
	for range 50000 {
		part, all := r.Uint64()>>r.IntN(65), r.Uint64()>>r.IntN(65)
		got := edge.Ratio(part, all)
		if got != got || math.Signbit(got) {
			t.Fatalf("of %d, %d: %s", part, all, tell(got))
		}
		if all == 0 {
			continue
		}
		want, _ := new(big.Rat).Quo(nearest(part), nearest(all)).Float64()
		if got != want {
			t.Fatalf("of %d, %d: %s; it ought to be %s", part, all, tell(got), tell(want))
		}
	}
}

// below is the greatest number below 2^64.
const below = 1<<64 - 2048

// wholes are numbers, and the greatest whole numbers that aren't above them, as far as 64 bits hold them.
var wholes = []struct {
	x     float64
	whole uint64
}{
	{math.Inf(-1), 0},
	{-math.MaxFloat64, 0},
	{-1 << 63, 0},
	{-2.9, 0},
	{-1, 0},
	{-0.5, 0},
	{-math.SmallestNonzeroFloat64, 0},
	{math.Copysign(0, -1), 0},
	{0, 0},
	{math.SmallestNonzeroFloat64, 0},
	{0.5, 0},
	{0.99, 0},
	{0x1.fffffffffffffp-1, 0}, // the one next below 1
	{1, 1},
	{0x1.0000000000001p+0, 1},
	{1.99, 1},
	{2, 2},
	{2.5, 2},
	{2.9, 2},
	{3.5, 3},
	{1<<52 - 0.5, 1<<52 - 1},
	{1<<53 - 1, 1<<53 - 1},
	{1 << 53, 1 << 53},
	{1<<63 - 1024, 1<<63 - 1024},
	{1 << 63, 1 << 63},
	{1<<63 + 2048, 1<<63 + 2048},
	{below, below},
	{1 << 64, math.MaxUint64},
	{1<<64 + 4096, math.MaxUint64},
	{1 << 70, math.MaxUint64},
	{math.MaxFloat64, math.MaxUint64},
	{math.Inf(1), math.MaxUint64},
	{math.NaN(), 0},
	{math.Float64frombits(0xfff0000000000001), 0},
	{math.Float64frombits(0xffffffffffffffff), 0},
	{math.Float64frombits(0x7ff0000000000001), 0},
}

// P6.2: Whole of each, at most nothing, at most less, as many, more, and at most whatever there is.
func TestWhole(t *testing.T) {
	for _, w := range wholes {
		for _, most := range []uint64{0, 1, 2, 3, w.whole / 2, w.whole - 1, w.whole, w.whole + 1, 1<<53 + 1, 1<<63 - 1, 1 << 63, 1<<63 + 1, below - 1, below + 1, math.MaxUint64 - 1, math.MaxUint64} {
			want := min(w.whole, most)
			if got := edge.Whole(w.x, most); got != want {
				t.Errorf("of %s, at most %d: %d; it ought to be %d", tell(w.x), most, got, want)
			}
		}
	}
}

// P6.2: the chapter's example.
func TestWholeExample(t *testing.T) {
	if got := edge.Whole(2.9, 10); got != 2 {
		t.Errorf("of 2.9, at most 10: %d", got)
	}
}

// P6.2: Whole of any number, worked out with whole numbers of any size.
func TestWholeOfAny(t *testing.T) {
	r := rand.New(rand.NewPCG(4, 6))
	for range 50000 {
		x, most := some(r)*math.Ldexp(1, r.IntN(66)), r.Uint64()>>r.IntN(65)
		want := uint64(0)
		if x >= 1 {
			want = most
			if whole, _ := new(big.Float).SetFloat64(x).Int(nil); whole != nil && whole.IsUint64() {
				want = min(most, whole.Uint64())
			}
		}
		if got := edge.Whole(x, most); got != want {
			t.Fatalf("of %s, at most %d: %d; it ought to be %d", tell(x), most, got, want)
		}
	}
}
