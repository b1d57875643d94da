package thin_test

import (
	"testing"

	"fascicle/thin"
)

// seeds are those of the table's columns: at the ends, the greatest bit alone, and a further one.
var seeds = [...]uint32{0, 1, 0x80000000, 0x9e3779b1, 0xffffffff}

// sums are those of lengths from 0 on, worked out by a program other than this one: of each length a row, of each seed a column.
var sums = [...][len(seeds)]uint32{
	{0x02cc5d05, 0x0b2cb792, 0x33c11430, 0x36b78ae7, 0x9061da9d}, // 0
	{0x3fe5a29d, 0x026c8fe7, 0xe8e9e6c2, 0x35bacfe6, 0xbba06164}, // 1
	{0x78b7fb0e, 0xd4eeb565, 0x9c37a19c, 0xfac836d1, 0x080f1c13}, // 2
	{0x4021af28, 0x9d189cbd, 0x08b4150d, 0xd3c72124, 0x750ca85b}, // 3
	{0x1eb8f11a, 0xab4e169c, 0x62d0cc8b, 0xdbf0c597, 0x487e0038}, // 4
	{0x07b9db7d, 0xee26d026, 0xc1254a50, 0xf4b9fab6, 0x06b01c0e}, // 5
	{0x5dd493ea, 0xa9594d96, 0xd077e729, 0x4e22b2ce, 0xcbe8e005}, // 6
	{0x02226fe7, 0x9c236d84, 0x3cd230b1, 0x2e18e53a, 0x6f1f72e7}, // 7
	{0x9d02a89c, 0xda500a3f, 0xdbd0a561, 0x3907e29c, 0x8882a315}, // 8
	{0xc43ca64f, 0x0b9e6a48, 0xf3a38dc9, 0x49d682ed, 0x808e1f61}, // 9
	{0x786ed32f, 0xf63f9ec8, 0x7ea890f0, 0x49489de3, 0x2e875ec2}, // 10
	{0xe54a009b, 0xf5158bf8, 0x46abd274, 0x8d650f23, 0x2189407a}, // 11
	{0xd40fa400, 0x0e2e1d2e, 0x48233138, 0x44857320, 0x4a2b28db}, // 12
	{0x78c83171, 0x9f84c3ad, 0x92e78354, 0xa9172d57, 0x5444193f}, // 13
	{0xe97074da, 0xad0f8112, 0x88bb6917, 0xf95c4dff, 0x6c0f0837}, // 14
	{0x162986eb, 0x47d52d07, 0x08a9b334, 0x5d300d8f, 0x65542919}, // 15
	{0x96ac9fa6, 0x06ab36be, 0xca4dcdd5, 0x6d8a765e, 0xec271498}, // 16
	{0x3cdfb1a2, 0x3c8eb080, 0xf7cc60d1, 0x642cf14d, 0x9b7d8e5e}, // 17
	{0x4c41719d, 0x74f09c1f, 0xc3c6230c, 0xc6339497, 0xcf0c1065}, // 18
	{0xbed5a0ea, 0x4a5d934a, 0x719ab9a1, 0xce2ea96a, 0xd96c8c33}, // 19
	{0x428f0501, 0x6f7d4d6c, 0x1e4331c3, 0x1d809fc2, 0xd01d9e8f}, // 20
	{0xad6b01c9, 0x91d191d7, 0xd1df3b6c, 0xbe5366ce, 0x40c5f2d8}, // 21
	{0x7c763b03, 0xb7566306, 0x30dc0df0, 0xd2374af7, 0x10edcb9c}, // 22
	{0x12a0921b, 0x0e3125f0, 0x60568f80, 0xb1f972d7, 0x32720e42}, // 23
	{0xbbc1b5c2, 0x50b8add9, 0xd4ff5f97, 0x6bca995a, 0xa907c535}, // 24
	{0xd76b2de0, 0x2ad09a75, 0x220d1a4c, 0x17e724b4, 0x6870aa18}, // 25
	{0xa362fa20, 0xad76650c, 0x699ab2c9, 0x561d9899, 0xc41ebbae}, // 26
	{0x360e7d31, 0x62b06059, 0x3d1fefac, 0x7a88ca87, 0x15ac1a05}, // 27
	{0x46f665e2, 0x770f97c4, 0xc6687851, 0xe0402a2a, 0x0ef0364b}, // 28
	{0x9697f109, 0x87461028, 0x75d0994e, 0x49bf4275, 0x5cef3fad}, // 29
	{0x7a7a8211, 0x23c653e0, 0x5699bf25, 0x64e17d66, 0x6e88e310}, // 30
	{0xdf853fbf, 0xcfbf9df4, 0x11f5bea1, 0x996079fe, 0xecd504fb}, // 31
	{0xda8072dc, 0x74e311e1, 0x0b4d0fa1, 0xe60dccbd, 0xa260c79d}, // 32
	{0x3c8fd07d, 0x37a75936, 0xbd5252ae, 0x8f4a7d52, 0x656480b0}, // 33
	{0x00eca874, 0x5611662a, 0xa8d98106, 0x282379bb, 0xb6fa74d5}, // 34
	{0xc52e5aee, 0xa0b923c1, 0x77a19ac7, 0xa84987dc, 0xcb2f8593}, // 35
	{0x92eff593, 0x9b9a16fb, 0xd29d79de, 0x13861a9e, 0x14cc955b}, // 36
	{0x4bd3e28c, 0x9d97cf51, 0x77accfb6, 0xb2533fd2, 0xdd8057e4}, // 37
	{0x52eedaaf, 0xb9c14a22, 0x524772c9, 0xb1bdf70c, 0x15ae32cd}, // 38
	{0x349f040e, 0x405fe927, 0xb92a4678, 0xa7acc84e, 0xf6142375}, // 39
	{0x3ecc6a67, 0x52195292, 0xa3cbd476, 0x3accd05e, 0x28b86d07}, // 40
	{0xc15b329a, 0x43868de4, 0xb7eeda35, 0x05be7140, 0x2ae16151}, // 41
	{0x102f8784, 0x2c9d5768, 0xbfeb6ace, 0xd83229b6, 0xefe49da1}, // 42
	{0x8085afc4, 0x331ae3fe, 0xc0fa7006, 0xc4c6d76d, 0xb33c206b}, // 43
	{0x9d4589ce, 0xe36bdc63, 0x714a2b9c, 0x3f5c1383, 0x2a2efc46}, // 44
	{0xb03d61d4, 0xc54a3864, 0xfff0b837, 0xe72c6f88, 0xebcfdaa3}, // 45
	{0x425652a3, 0x857139b6, 0xda86f1c8, 0xa8cfa825, 0xefb7e6b8}, // 46
	{0x0ea9c191, 0x8d1a223d, 0xd4938458, 0x98830ae3, 0x8922d062}, // 47
	{0x99ee09e8, 0x59230db4, 0xfc9f8c15, 0xebb822c9, 0x6788db88}, // 48
	{0xde21158e, 0x4faaca5d, 0x6f6ebdfa, 0xfb5bdb79, 0xb3ffa83c}, // 49
	{0xe2e32af7, 0x208c3ae7, 0xa360a6c9, 0xebe893f8, 0xe637e43e}, // 50
}

// sample gives the bytes that the table's sums are of.
func sample(size int) []byte {
	b := make([]byte, size)
	for i := range b {
		b[i] = byte(37*i + 11)
	}
	return b
}

// P3.1: of each length, with blocks and without, and with each number of bytes behind them.
func TestSumOfEachLength(t *testing.T) {
	for size, row := range sums {
		for i, want := range row {
			if got := thin.Sum(seeds[i], sample(size)); got != want {
				t.Errorf("of %d bytes by the seed %08x: %08x; it ought to be %08x", size, seeds[i], got, want)
			}
		}
	}
}

// P3.1: the chapter's examples.
func TestExamples(t *testing.T) {
	for s, want := range map[string]uint32{"": 0x02cc5d05, "abc": 0x32d153ff} {
		if got := thin.Sum(0, []byte(s)); got != want {
			t.Errorf("of %q: %08x; it ought to be %08x", s, got, want)
		}
	}
}

// repeat gives so many times the same byte.
func repeat(x byte, size int) []byte {
	b := make([]byte, size)
	for i := range b {
		b[i] = x
	}
	return b
}

// P3.1: numbers of nothing but ones go round at 2^32, by the least seed and by the greatest one.
func TestSumGoesRound(t *testing.T) {
	for size, want := range map[int][2]uint32{
		3:  {0x40c2d37c, 0xadf6d775},
		4:  {0x04079e5f, 0x20e3fb57},
		7:  {0xc5d95137, 0x48ab3c05},
		15: {0x20095b45, 0x19478773},
		16: {0xd85160aa, 0xa6c9487d},
		17: {0xb1641a79, 0x00ab9e1a},
		31: {0x7d2a6fac, 0x38aa7a13},
		32: {0xd03c6d18, 0x59e963e1},
		63: {0xb2abb866, 0xa334deb6},
		64: {0x2b0a3d64, 0x084b2f39},
	} {
		b := repeat(255, size)
		if got := [2]uint32{thin.Sum(0, b), thin.Sum(0xffffffff, b)}; got != want {
			t.Errorf("of %d bytes 255: %08x; it ought to be %08x", size, got, want)
		}
	}
}

// P3.1: of many blocks.
func TestSumOfManyBlocks(t *testing.T) {
	b := make([]byte, 100000)
	for i := range b {
		b[i] = byte(i * i >> 3)
	}
	if got := thin.Sum(77, b); got != 0x274aaeb2 {
		t.Errorf("of %d bytes: %08x", len(b), got)
	}
}

// P3.1: noughts count, too, each of them.
func TestSumOfNoughts(t *testing.T) {
	seen := map[uint32]int{}
	for size := range 70 {
		sum := thin.Sum(0, make([]byte, size))
		if other, ok := seen[sum]; ok {
			t.Errorf("%d noughts and %d have one sum: %08x", other, size, sum)
		}
		seen[sum] = size
	}
}

// P3.1: of each bit that is another one the sum is another one.
func TestSumOfEachBit(t *testing.T) {
	for _, size := range []int{1, 3, 4, 7, 15, 16, 35, 52} {
		b := sample(size)
		sum := thin.Sum(5, b)
		for i := range 8 * size {
			b[i/8] ^= 1 << (i % 8)
			if thin.Sum(5, b) == sum {
				t.Errorf("of %d bytes bit %d doesn't count", size, i)
			}
			b[i/8] ^= 1 << (i % 8)
		}
	}
}

// P3.1: just the sum is the sum.
func TestCheck(t *testing.T) {
	for size, row := range sums {
		for i, sum := range row {
			if !thin.Check(seeds[i], sample(size), sum) {
				t.Errorf("of %d bytes by the seed %08x: not %08x", size, seeds[i], sum)
			}
			for _, other := range wrong(sum) {
				if thin.Check(seeds[i], sample(size), other) {
					t.Errorf("of %d bytes by the seed %08x: %08x, which isn't the sum", size, seeds[i], other)
				}
			}
		}
	}
}

// wrong gives numbers that aren't this one: those beside it, its complement, its halves the other way round, and each with another bit.
func wrong(sum uint32) []uint32 {
	l := []uint32{sum + 1, sum - 1, ^sum, sum<<16 | sum>>16}
	for i := range 32 {
		l = append(l, sum^1<<i)
	}
	return l
}

// P3.1: a sum stands for its seed and its bytes alone.
func TestCheckBySeedAndBytes(t *testing.T) {
	b := sample(33)
	sum := thin.Sum(7, b)
	if thin.Check(8, b, sum) {
		t.Error("by another seed it is the sum, too")
	}
	if thin.Check(7, b[:32], sum) || thin.Check(7, b[1:], sum) {
		t.Error("of fewer bytes it is the sum, too")
	}
	if thin.Check(7, append(sample(33), 0), sum) {
		t.Error("with a nought behind them it is the sum, too")
	}
}

// P3.1, R4: nil is as empty bytes.
func TestNil(t *testing.T) {
	for i, seed := range seeds {
		if got := thin.Sum(seed, nil); got != sums[0][i] || !thin.Check(seed, nil, got) || thin.Check(seed, nil, got+1) {
			t.Errorf("of nil by the seed %08x: %08x; it ought to be %08x", seed, got, sums[0][i])
		}
	}
}
