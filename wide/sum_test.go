package wide_test

import (
	"testing"

	"fascicle/wide"
)

// P4.1: of each length, with blocks and without, and with each number of bytes behind them.
func TestSumOfEachLength(t *testing.T) {
	for size, row := range sums {
		for i, want := range row {
			if got := wide.Sum(seeds[i], sample(size)); got != want {
				t.Errorf("of %d bytes by the seed %016x: %016x; it ought to be %016x", size, seeds[i], got, want)
			}
		}
	}
}

// P4.1: the chapter's examples.
func TestExamples(t *testing.T) {
	for s, want := range map[string]uint64{"": 0xef46db3751d8e999, "abc": 0x44bc2cf5ad770999} {
		if got := wide.Sum(0, []byte(s)); got != want {
			t.Errorf("of %q: %016x; it ought to be %016x", s, got, want)
		}
		if got := wide.New(0).Write([]byte(s)).Sum(); got != want {
			t.Errorf("of a state with %q: %016x; it ought to be %016x", s, got, want)
		}
	}
}

// P4.1: further seeds, of 13 bytes and of 45: those of one half of the bits, and those by which one of the first numbers is at an end.
func TestSumByFurtherSeeds(t *testing.T) {
	for seed, want := range map[uint64][2]uint64{
		0x0000000000000002: {0x0e9bdf46a3da0719, 0x380ff0ab1eaf24f2},
		0x00000000000000ff: {0xdf6069cba72d4f02, 0x732fc75335f2e447},
		0x0000000080000000: {0x7977d1a5da2b8514, 0x9d2bd5cefa56f809},
		0x00000000ffffffff: {0xa8793814e73b3c43, 0x1b861889f81cbb1e},
		0x0000000100000000: {0xc602d73c6e6ed967, 0x3589d79d8d1764b3},
		0x7fffffffffffffff: {0xa15d3a3044477eeb, 0x2331b308831acd9d},
		0x9f15d811523f4a2a: {0xd8d1f99c8b4e2245, 0xa4cfc852427468d2}, // a is 0
		0x61c8864e7a143579: {0x386cda63b1c5eca4, 0xa3ac82e775d47aa0}, // seed + P1 is 0
		0x3d4d51c2d82b14b1: {0x89e0ef5981f0d395, 0x7acbc263ab4175ba}, // b is 0
		0xd82b14d0e9a9983b: {0x6671696c526b1abe, 0x2bb024802441c86f}, // seed + P5 is 0
		0x9e3779b185ebca87: {0x5bcbd57d980f93bf, 0x7c31197fecfe91bb}, // d is 0
		0x9e3779b185ebca86: {0x67da461041c16401, 0x09b13a7183032b18}, // d is the greatest number
		0xfffffffffffffffe: {0x377104452cb43a34, 0x801ead22dd59a0d3},
	} {
		if got := [2]uint64{wide.Sum(seed, sample(13)), wide.Sum(seed, sample(45))}; got != want {
			t.Errorf("by the seed %016x: %016x; it ought to be %016x", seed, got, want)
		}
	}
}

// repeat gives so many times the same byte.
func repeat(x byte, size int) []byte {
	b := make([]byte, size)
	for i := range b {
		b[i] = x
	}
	return b
}

// P4.1: numbers of nothing but ones go round at 2^64, by the least seed and by the greatest one.
func TestSumGoesRound(t *testing.T) {
	for size, want := range map[int][2]uint64{
		1:   {0x95634172a60b7544, 0x0b82e7b65e54900a},
		3:   {0x04e766c317cf345c, 0xfcc422f1fc759e66},
		4:   {0x7f78e4bda3addf93, 0x08ed5390d39689fd},
		7:   {0xeb124fc5c6fc0e7a, 0xf098b0cb5780324c},
		8:   {0x85d136adb773c6c9, 0x1a158c94abf6a8b1},
		11:  {0x20410bf486dcb0f0, 0x3ce772454d61fe66},
		12:  {0x0e9a748176145f5f, 0x66494dcd7880226d},
		15:  {0x3d0cb3ab92675a0c, 0x74d0e04d925c72af},
		31:  {0x5fbff749e15d5844, 0x0417a60e8c3b2420},
		32:  {0xff10223616c08787, 0x5b8a98422a5f3885},
		33:  {0xf4291792cf8fdb43, 0xfec72dd8342347aa},
		63:  {0xe8e09aa17c7e47d6, 0xe06449095d7169af},
		64:  {0x2e54fae2959dbb84, 0x7af6f0ab91324fa2},
		65:  {0x6ed2445b4b82d6cb, 0xdc1738491994cd96},
		127: {0xe2da503039092860, 0xd2522e1dca4b25f9},
		128: {0xd03e383c0b331650, 0x5b0130981cf302f1},
	} {
		b := repeat(255, size)
		if got := [2]uint64{wide.Sum(0, b), wide.Sum(0xffffffffffffffff, b)}; got != want {
			t.Errorf("of %d bytes 255: %016x; it ought to be %016x", size, got, want)
		}
	}
}

// P4.1: of many blocks.
func TestSumOfManyBlocks(t *testing.T) {
	b := make([]byte, 100000)
	for i := range b {
		b[i] = byte(i * i >> 3)
	}
	if got := wide.Sum(77, b); got != 0x519c954d579f1eeb {
		t.Errorf("of %d bytes: %016x", len(b), got)
	}
}

// P4.1: noughts count, too, each of them.
func TestSumOfNoughts(t *testing.T) {
	seen := map[uint64]int{}
	for size := range 140 {
		sum := wide.Sum(0, make([]byte, size))
		if other, ok := seen[sum]; ok {
			t.Errorf("%d noughts and %d have one sum: %016x", other, size, sum)
		}
		seen[sum] = size
	}
}

// P4.1: of each bit that is another one the sum is another one.
func TestSumOfEachBit(t *testing.T) {
	for _, size := range []int{1, 3, 4, 7, 8, 31, 32, 47, 71} {
		b := sample(size)
		sum := wide.Sum(5, b)
		for i := range 8 * size {
			b[i/8] ^= 1 << (i % 8)
			if wide.Sum(5, b) == sum {
				t.Errorf("of %d bytes bit %d doesn't count", size, i)
			}
			b[i/8] ^= 1 << (i % 8)
		}
	}
}

// P4.1, R4: nil is as empty bytes.
func TestSumOfNil(t *testing.T) {
	for i, seed := range seeds {
		if got := wide.Sum(seed, nil); got != sums[0][i] {
			t.Errorf("of nil by the seed %016x: %016x; it ought to be %016x", seed, got, sums[0][i])
		}
	}
}
