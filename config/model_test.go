package config_test

import (
	"math"
	"math/big"
	"math/rand/v2"
	"slices"

	"fascicle/api"
)

// The model works with whole numbers of any size, so that nothing in it goes round at 2^64.

// number gives a whole number of any size.
func number(x uint64) *big.Int {
	return new(big.Int).SetUint64(x)
}

// may tells whether a config may be.
func may(c api.Config) bool {
	exps := []uint8{12, 13, 14, 15, 16, 17, 18, 19, 20, 21, 22, 23, 24}
	return slices.Contains(exps, c.Exp) && number(uint64(c.Segments)).Sign() > 0 && number(uint64(c.Segments)).Cmp(number(65536)) <= 0
}

// sizeOf gives the bytes of a segment.
func sizeOf(c api.Config) *big.Int {
	return new(big.Int).Exp(number(2), number(uint64(c.Exp)), nil)
}

// greatestOf gives the bytes of the greatest image.
func greatestOf(c api.Config) *big.Int {
	return new(big.Int).Mul(sizeOf(c), number(uint64(c.Segments)))
}

// countOf is what Count ought to be.
func countOf(c api.Config, n uint64) (uint32, api.Errno) {
	if !may(c) {
		return 0, api.ErrArg
	}
	whole, left := new(big.Int).DivMod(number(n), sizeOf(c), new(big.Int))
	switch {
	case number(n).Cmp(greatestOf(c)) > 0:
		return 0, api.ErrFull
	case left.Sign() != 0:
		return 0, api.ErrForm
	}
	return uint32(whole.Uint64()), api.OK
}

// boundsOf is what Bounds ought to be.
func boundsOf(c api.Config, n, i uint64) (from, to uint64, e api.Errno) {
	if !may(c) {
		return 0, 0, api.ErrArg
	}
	begin := new(big.Int).Mul(number(i), sizeOf(c))
	end := new(big.Int).Add(begin, sizeOf(c))
	if begin.Cmp(number(n)) >= 0 || end.Cmp(greatestOf(c)) > 0 {
		return 0, 0, api.ErrNone
	}
	if end.Cmp(number(n)) > 0 {
		end = number(n)
	}
	return begin.Uint64(), end.Uint64(), api.OK
}

// whereOf is what Where ought to be.
func whereOf(c api.Config, at uint64) (segment, within uint64, e api.Errno) {
	if !may(c) {
		return 0, 0, api.ErrArg
	}
	if number(at).Cmp(greatestOf(c)) >= 0 {
		return 0, 0, api.ErrNone
	}
	s, w := new(big.Int).DivMod(number(at), sizeOf(c), new(big.Int))
	return s.Uint64(), w.Uint64(), api.OK
}

// right are configs that may be.
func right() []api.Config {
	return []api.Config{
		{Exp: 12, Segments: 1}, {Exp: 12, Segments: 2}, {Exp: 12, Segments: 3}, {Exp: 12, Segments: 65535}, {Exp: 12, Segments: 65536},
		{Exp: 13, Segments: 5}, {Exp: 16, Segments: 65536}, {Exp: 18, Segments: 1000}, {Exp: 23, Segments: 65535},
		{Exp: 24, Segments: 1}, {Exp: 24, Segments: 2}, {Exp: 24, Segments: 65535}, {Exp: 24, Segments: 65536},
	}
}

// wrong are configs that may not be.
func wrong() []api.Config {
	return []api.Config{
		{}, {Exp: 0, Segments: 1}, {Exp: 0, Segments: 65536}, {Exp: 11, Segments: 0}, {Exp: 11, Segments: 1}, {Exp: 11, Segments: 65536},
		{Exp: 25, Segments: 1}, {Exp: 25, Segments: 65536}, {Exp: 25, Segments: 65537}, {Exp: 63, Segments: 1}, {Exp: 64, Segments: 1},
		{Exp: math.MaxUint8, Segments: 1}, {Exp: math.MaxUint8, Segments: math.MaxUint32},
		{Exp: 12, Segments: 0}, {Exp: 12, Segments: 65537}, {Exp: 12, Segments: math.MaxUint32},
		{Exp: 24, Segments: 0}, {Exp: 24, Segments: 65537}, {Exp: 24, Segments: math.MaxUint32},
	}
}

// around adds to each number the one below and the one above.
func around(l ...uint64) []uint64 {
	var all []uint64
	for _, x := range l {
		all = append(all, x-1, x, x+1)
	}
	slices.Sort(all)
	return slices.Compact(all)
}

// places are numbers of bytes, and of one byte, where segments, the greatest image and integer kinds end.
func places(c api.Config) []uint64 {
	size, segments := uint64(1)<<(c.Exp%64), uint64(c.Segments)
	return around(0, 1000, size, size+size/2, 2*size, 3*size, (segments-1)*size, segments*size, (segments+1)*size, 65536*size,
		1<<31, 1<<32, 1<<32*size, 1<<32*size+size, 1<<40, 1<<44, 1<<56, 1<<63)
}

// segments are numbers of segments, among them those whose product with the size goes round at 2^64.
func segments(c api.Config) []uint64 {
	round := uint64(1) << ((64 - c.Exp) % 64)
	return around(0, 2, uint64(c.Segments)/2, uint64(c.Segments), 65536, 1<<31, 1<<32, 1<<32+uint64(c.Segments), 1<<40, 1<<52, round, 2*round, round/2, 1<<63)
}

// anyOf gives any config, one that may not be among them, and any number, often one at the edge of a segment.
func anyOf(r *rand.Rand) (api.Config, uint64) {
	c := api.Config{Exp: uint8(11 + r.IntN(15)), Segments: uint32(1 + r.IntN(65537))}
	if r.IntN(2) == 0 {
		c.Segments = uint32(r.IntN(5))
	}
	x := r.Uint64() >> r.IntN(65)
	if r.IntN(2) == 0 {
		x = r.Uint64N(uint64(c.Segments)+2)<<c.Exp + r.Uint64N(3) - 1
	}
	return c, x
}
