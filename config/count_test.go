package config_test

import (
	"math"
	"math/rand/v2"
	"testing"

	"fascicle/api"
	"fascicle/config"
)

// expectCount holds Count against what it ought to be.
func expectCount(t *testing.T, c api.Config, n uint64, want uint32, wantE api.Errno) {
	t.Helper()
	if got, e := config.Count(c, n); got != want || e != wantE {
		t.Errorf("Count of %d bytes by %+v: %d, %d; it ought to be %d, %d", n, c, got, e, want, wantE)
	}
}

// P8.2: Count of bytes at the edges of segments and of the greatest image: too many is told ahead of not whole.
func TestCount(t *testing.T) {
	type counted struct {
		n    uint64
		want uint32
		e    api.Errno
	}
	for c, l := range map[api.Config][]counted{
		{Exp: 12, Segments: 1}: {
			{0, 0, api.OK}, {1, 0, api.ErrForm},
			{4095, 0, api.ErrForm}, {4096, 1, api.OK}, {4097, 0, api.ErrFull},
			{8192, 0, api.ErrFull}, {math.MaxUint64, 0, api.ErrFull},
		},
		{Exp: 12, Segments: 2}: {
			{8192, 2, api.OK}, {4097, 0, api.ErrForm}, // the chapter's example
			{0, 0, api.OK}, {1, 0, api.ErrForm}, {4095, 0, api.ErrForm}, {4096, 1, api.OK},
			{8191, 0, api.ErrForm}, {8193, 0, api.ErrFull}, {12288, 0, api.ErrFull}, {math.MaxUint64, 0, api.ErrFull},
		},
		{Exp: 12, Segments: 65536}: {
			{0, 0, api.OK}, {1, 0, api.ErrForm},
			{4095, 0, api.ErrForm}, {4096, 1, api.OK}, {4097, 0, api.ErrForm},
			{268431360, 65535, api.OK}, {268435455, 0, api.ErrForm}, {268435456, 65536, api.OK}, {268435457, 0, api.ErrFull},
			{1 << 32, 0, api.ErrFull}, {1 << 44, 0, api.ErrFull}, {1<<44 + 4096, 0, api.ErrFull}, {math.MaxUint64, 0, api.ErrFull},
		},
		{Exp: 24, Segments: 1}: {
			{0, 0, api.OK}, {1, 0, api.ErrForm}, {4096, 0, api.ErrForm},
			{16777215, 0, api.ErrForm}, {16777216, 1, api.OK}, {16777217, 0, api.ErrFull}, {33554432, 0, api.ErrFull},
			{1 << 56, 0, api.ErrFull}, {1<<56 + 1<<24, 0, api.ErrFull}, {math.MaxUint64, 0, api.ErrFull},
		},
		{Exp: 24, Segments: 65536}: {
			{0, 0, api.OK}, {1, 0, api.ErrForm},
			{16777215, 0, api.ErrForm}, {16777216, 1, api.OK}, {16777217, 0, api.ErrForm},
			{1 << 32, 256, api.OK}, {1<<40 - 1<<24, 65535, api.OK},
			{1<<40 - 1, 0, api.ErrForm}, {1 << 40, 65536, api.OK}, {1<<40 + 1, 0, api.ErrFull}, {1<<40 + 1<<24, 0, api.ErrFull},
			{1 << 56, 0, api.ErrFull}, {math.MaxUint64, 0, api.ErrFull},
		},
	} {
		for _, x := range l {
			expectCount(t, c, x.n, x.want, x.e)
		}
	}
}

// P8.2, R3: by a config that may not be: ErrArg and no number, whatever else is wrong.
func TestCountByWrongConfigs(t *testing.T) {
	for _, c := range wrong() {
		for _, n := range []uint64{0, 1, 2048, 4095, 4096, 4097, 1 << 24, 1 << 25, 1 << 28, 1<<28 + 1, 1<<28 + 4096, 1 << 40, 1<<40 + 1, 1<<40 + 1<<24, math.MaxUint64} {
			expectCount(t, c, n, 0, api.ErrArg)
		}
		for _, n := range places(c) {
			expectCount(t, c, n, 0, api.ErrArg)
		}
	}
}

// P8.2: Count of each number of whole segments, and of one byte less and one more.
func TestCountOfEachNumber(t *testing.T) {
	for _, exp := range []uint8{12, 24} {
		c := api.Config{Exp: exp, Segments: 65536}
		size := uint64(1) << exp
		for k := range uint64(65537) {
			expectCount(t, c, k*size, uint32(k), api.OK)
			if k > 0 {
				expectCount(t, c, k*size-1, 0, api.ErrForm)
			}
			if k < 65536 {
				expectCount(t, c, k*size+1, 0, api.ErrForm)
			}
		}
	}
}

// P8.2: Count of any bytes, held against the model.
func TestCountOfAny(t *testing.T) {
	for _, c := range append(right(), wrong()...) {
		for _, n := range places(c) {
			want, e := countOf(c, n)
			expectCount(t, c, n, want, e)
		}
	}
	r := rand.New(rand.NewPCG(8, 1))
	for range 50000 {
		c, n := anyOf(r)
		want, e := countOf(c, n)
		expectCount(t, c, n, want, e)
	}
}
