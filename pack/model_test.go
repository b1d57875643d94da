package pack_test

import (
	"math"
	"math/big"
	"math/rand/v2"
	"slices"

	"fascicle/api"
	"fascicle/pack"
)

// The model adds with whole numbers of any size, so that nothing in it goes round, and with nothing of the package that is tested, nor of those below it.

const greatest = math.MaxInt

// config gives a config.
func config(exp uint8, segments uint32) api.Config {
	return api.Config{Exp: exp, Segments: segments}
}

// may tells whether a config may be.
func may(c api.Config) bool {
	exps := []uint8{12, 13, 14, 15, 16, 17, 18, 19, 20, 21, 22, 23, 24}
	return slices.Contains(exps, c.Exp) && c.Segments != 0 && c.Segments < 65537
}

// digits works out how many bytes a number has: 7 bits each.
func digits(x uint32) int {
	n := 1
	for x > 127 {
		x /= 128
		n++
	}
	return n
}

// headOf works out how many bytes a head's frame has: 3 bytes, two numbers and a sum, one byte more by the stuffing, and a nought.
func headOf(c api.Config, number uint32) int {
	return 3 + digits(c.Segments) + digits(number) + 8 + 1 + 1
}

// mostOf works out how many bytes the frame of a footer of n entries has at most: 254 bytes of it, or fewer at its end, have one more by the stuffing.
func mostOf(n int) int {
	plain := 1 + 4 + 4 + 8
	for i := range n {
		plain += 8 + 4
		if i%16 == 0 {
			plain += 8
		}
	}
	return plain + (plain+253)/254 + 1
}

// mosts keeps what mostOf told: it goes through all entries.
type mosts map[int]int

// of is mostOf.
func (m mosts) of(n int) int {
	x, ok := m[n]
	if !ok {
		x = mostOf(n)
		m[n] = x
	}
	return x
}

// model is what works out sums; it keeps what it worked out.
type model struct{ mosts mosts }

// newModel gives one.
func newModel() model {
	return model{mosts{}}
}

// sizeOf gives the bytes of a segment.
func sizeOf(c api.Config) int {
	size := 1
	for range c.Exp {
		size *= 2
	}
	return size
}

// fits works out whether a frame fits.
func (m model) fits(r pack.Room, size int) bool {
	if !may(r.Config) || size < 1 {
		return false
	}
	sum := big.NewInt(int64(r.Used))
	sum.Add(sum, big.NewInt(int64(size)))
	sum.Add(sum, big.NewInt(int64(m.mosts.of(r.Count+1))))
	return sum.Cmp(big.NewInt(int64(sizeOf(r.Config)))) <= 0
}

// left works out the greatest frame that fits: between a size that fits and one that doesn't it asks for the one in the midst.
func (m model) left(r pack.Room) int {
	fits, not := 0, 1<<25
	for fits+1 < not {
		if mid := (fits + not) / 2; m.fits(r, mid) {
			fits = mid
		} else {
			not = mid
		}
	}
	return fits
}

// emptyOf works out an empty room.
func emptyOf(c api.Config, number uint32) pack.Room {
	return pack.Room{Config: c, Number: number, Used: headOf(c, number)}
}

// tooLarge works out whether a frame is too large.
func (m model) tooLarge(c api.Config, size int) bool {
	return !may(c) || !m.fits(emptyOf(c, c.Segments-1), size)
}

// plan works out into which segment each frame goes: of each frame the sums of its segment are worked out anew.
func (m model) plan(c api.Config, sizes []int) ([]uint32, api.Errno) {
	if !may(c) {
		return nil, api.ErrArg
	}
	var numbers []uint32
	number, first := uint32(0), 0
	for i, size := range sizes {
		if m.tooLarge(c, size) {
			return nil, api.ErrTooLarge
		}
		if !m.fits(m.with(c, number, sizes[first:i]), size) {
			number, first = number+1, i
		}
		if number == c.Segments {
			return nil, api.ErrFull
		}
		numbers = append(numbers, number)
	}
	return numbers, api.OK
}

// with works out a room with frames.
func (m model) with(c api.Config, number uint32, sizes []int) pack.Room {
	r := emptyOf(c, number)
	for _, size := range sizes {
		r.Used += size
		r.Count++
	}
	return r
}

// right are configs that may be: those whose heads have 15 to 19 bytes, too.
func right() []api.Config {
	return []api.Config{
		config(12, 1), config(12, 2), config(12, 3), config(12, 127), config(12, 128), config(12, 129), config(12, 16383), config(12, 16384), config(12, 16385), config(12, 65536),
		config(13, 5), config(16, 200), config(18, 20000), config(23, 65535), config(24, 1), config(24, 2), config(24, 65536),
	}
}

// wrong are configs that may not be.
func wrong() []api.Config {
	return []api.Config{
		{}, config(0, 1), config(0, 65536), config(11, 0), config(11, 1), config(11, 65536),
		config(25, 1), config(25, 65536), config(25, 65537), config(63, 1), config(64, 1), config(255, 1), config(255, math.MaxUint32),
		config(12, 0), config(12, 65537), config(12, math.MaxUint32),
		config(24, 0), config(24, 65537), config(24, math.MaxUint32),
	}
}

// numbersOf are some numbers of a config's segments: those at the ends, and those at which a number has a byte more.
func numbersOf(c api.Config) []uint32 {
	var l []uint32
	for _, x := range []uint32{0, 1, 2, 126, 127, 128, 129, 16382, 16383, 16384, 16385, 65534, 65535, c.Segments / 2, c.Segments - 2, c.Segments - 1} {
		if x < c.Segments {
			l = append(l, x)
		}
	}
	slices.Sort(l)
	return slices.Compact(l)
}

// huge are sizes that added to a room's bytes go beyond a number's bounds, and sizes that cut to fewer bits are small.
func huge() []int {
	l := []int{1 << 24, 1<<24 + 1, 1 << 31, 1<<31 - 1, 1 << 32, 1<<32 + 1, 1<<32 + 100, 1 << 40, 1 << 62, 1<<62 + 1, greatest}
	for _, less := range []int{1, 2, 10, 14, 15, 16, 19, 38, 39, 40, 54, 55, 100, 1000, 4000, 4042, 4095, 4096, 4097, 1 << 24, 1 << 32} {
		l = append(l, greatest-less)
	}
	return l
}

// small are sizes below 1.
func small() []int {
	return []int{0, -1, -2, -15, -39, -54, -55, -100, -4042, -4096, -1 << 24, -1 << 31, -1<<32 + 1, -1 << 32, -1 << 40, math.MinInt + 4096, math.MinInt + 55, math.MinInt + 54, math.MinInt + 1, math.MinInt}
}

// sizes gives n sizes of frames, each between 1 and most.
func sizes(r *rand.Rand, n, most int) []int {
	l := make([]int, n)
	for i := range l {
		l[i] = 1 + r.IntN(most)
	}
	return l
}
