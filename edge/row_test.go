package edge_test

import (
	"math"
	"math/rand/v2"
	"strconv"
)

// canonical is the one text of all NaNs.
const canonical = 0x7ff8000000000000

// place is a number, by its bits, and the key that it has to have.
type place struct {
	bits, key uint64
}

// row is the order at its edges. Behind infinity stand NaNs alone, none of them ahead of another.
var row = []place{
	{0xfff0000000000000, 0x000fffffffffffff}, // -infinity
	{0xffefffffffffffff, 0x0010000000000000}, // the finite one furthest below 0
	{0xbff0000000000000, 0x400fffffffffffff}, // -1
	{0x8010000000000000, 0x7fefffffffffffff}, // the one next below 0 with a full exponent
	{0x800fffffffffffff, 0x7ff0000000000000}, // the one furthest below 0 without one
	{0x8000000000000001, 0x7ffffffffffffffe}, // the one next below -0
	{0x8000000000000000, 0x7fffffffffffffff}, // -0
	{0x0000000000000000, 0x8000000000000000}, // 0
	{0x0000000000000001, 0x8000000000000001}, // the least one above 0
	{0x000fffffffffffff, 0x800fffffffffffff}, // the greatest one without a full exponent
	{0x0010000000000000, 0x8010000000000000}, // the least one with one
	{0x3fefffffffffffff, 0xbfefffffffffffff}, // the one next below 1
	{0x3ff0000000000000, 0xbff0000000000000}, // 1
	{0x7fefffffffffffff, 0xffefffffffffffff}, // the greatest finite one
	{0x7ff0000000000000, 0xfff0000000000000}, // infinity
	{canonical, 0xfff8000000000000},          // NaN, as it is written
	{0x7ff8000000000001, 0xfff8000000000000}, // NaNs of other bits, of both signs
	{0x7ff0000000000001, 0xfff8000000000000}, //
	{0x7ff7ffffffffffff, 0xfff8000000000000}, //
	{0x7fffffffffffffff, 0xfff8000000000000}, //
	{canonical | 1<<63, 0xfff8000000000000},  //
	{0xfff8000000000001, 0xfff8000000000000}, //
	{0xfff0000000000001, 0xfff8000000000000}, //
	{0xfff7ffffffffffff, 0xfff8000000000000}, //
	{0xffffffffffffffff, 0xfff8000000000000}, //
}

// firstNaN is where the row's NaNs begin.
const firstNaN = 15

// number gives that of a place.
func (p place) number() float64 { return math.Float64frombits(p.bits) }

// minus gives -0, which no literal of Go is.
func minus() float64 { return math.Copysign(0, -1) }

// tell gives a number as it is, NaNs with their bits.
func tell(x float64) string {
	return strconv.FormatFloat(x, 'g', -1, 64) + " (" + strconv.FormatUint(math.Float64bits(x), 16) + ")"
}

// alike tells whether two numbers have the same bits, or are NaNs both.
func alike(a, b float64) bool {
	return math.Float64bits(a) == math.Float64bits(b) || a != a && b != b
}

// order works out, kind by kind, as the chapter has it, which of two stands ahead.
func order(a, b float64) int {
	switch {
	case a != a && b != b:
		return 0
	case a != a:
		return 1
	case b != b:
		return -1
	case a < b:
		return -1
	case a > b:
		return 1
	case math.Signbit(a) == math.Signbit(b):
		return 0
	case math.Signbit(a):
		return -1
	}
	return 1
}

// some gives a number of any kind, edges among them often.
func some(r *rand.Rand) float64 {
	switch r.IntN(5) {
	case 0:
		return row[r.IntN(len(row))].number()
	case 1:
		return float64(r.Uint64() >> r.IntN(64))
	case 2:
		return float64(r.IntN(9)-4) / 4
	}
	return math.Float64frombits(r.Uint64())
}
