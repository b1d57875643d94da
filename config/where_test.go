package config_test

import (
	"math"
	"math/rand/v2"
	"testing"

	"fascicle/api"
	"fascicle/config"
)

// expectWhere holds Where against what it ought to be.
func expectWhere(t *testing.T, c api.Config, at, segment, within uint64, wantE api.Errno) {
	t.Helper()
	if s, w, e := config.Where(c, at); s != segment || w != within || e != wantE {
		t.Errorf("Where of %d by %+v: %d, %d, %d; it ought to be %d, %d, %d", at, c, s, w, e, segment, within, wantE)
	}
}

// P8.2: Where of the first and the last byte of segments, of the last one of the greatest image, and behind it.
func TestWhere(t *testing.T) {
	type stands struct {
		at, segment, within uint64
		e                   api.Errno
	}
	for c, l := range map[api.Config][]stands{
		{Exp: 12, Segments: 1}: {
			{0, 0, 0, api.OK}, {1, 0, 1, api.OK}, {4095, 0, 4095, api.OK}, {4096, 0, 0, api.ErrNone}, {4097, 0, 0, api.ErrNone},
			{1 << 44, 0, 0, api.ErrNone}, {math.MaxUint64, 0, 0, api.ErrNone},
		},
		{Exp: 12, Segments: 2}: {
			{0, 0, 0, api.OK}, {4095, 0, 4095, api.OK}, {4096, 1, 0, api.OK}, {5000, 1, 904, api.OK},
			{8191, 1, 4095, api.OK}, {8192, 0, 0, api.ErrNone}, {math.MaxUint64, 0, 0, api.ErrNone},
		},
		{Exp: 12, Segments: 65536}: {
			{0, 0, 0, api.OK}, {4095, 0, 4095, api.OK}, {4096, 1, 0, api.OK},
			{1<<28 - 4097, 65534, 4095, api.OK}, {1<<28 - 4096, 65535, 0, api.OK}, {1<<28 - 1, 65535, 4095, api.OK}, {1 << 28, 0, 0, api.ErrNone},
			{1 << 44, 0, 0, api.ErrNone}, {1<<44 + 4095, 0, 0, api.ErrNone}, {1<<44 + 4096, 0, 0, api.ErrNone}, {math.MaxUint64, 0, 0, api.ErrNone},
		},
		{Exp: 24, Segments: 1}: {
			{0, 0, 0, api.OK}, {4096, 0, 4096, api.OK}, {1<<24 - 1, 0, 1<<24 - 1, api.OK}, {1 << 24, 0, 0, api.ErrNone},
			{1 << 56, 0, 0, api.ErrNone}, {math.MaxUint64, 0, 0, api.ErrNone},
		},
		{Exp: 24, Segments: 65536}: {
			{0, 0, 0, api.OK}, {1<<24 - 1, 0, 1<<24 - 1, api.OK}, {1 << 24, 1, 0, api.OK}, {3<<24 + 9, 3, 9, api.OK},
			{1 << 32, 256, 0, api.OK}, {1<<32 + 1, 256, 1, api.OK},
			{1<<40 - 1, 65535, 1<<24 - 1, api.OK}, {1 << 40, 0, 0, api.ErrNone}, {1<<40 + 1, 0, 0, api.ErrNone},
			{1 << 56, 0, 0, api.ErrNone}, {1<<56 + 1, 0, 0, api.ErrNone}, {math.MaxUint64, 0, 0, api.ErrNone},
		},
	} {
		for _, x := range l {
			expectWhere(t, c, x.at, x.segment, x.within, x.e)
		}
	}
}

// P8.2, R3: by a config that may not be: ErrArg and no place, also where the byte stands behind all.
func TestWhereByWrongConfigs(t *testing.T) {
	for _, c := range wrong() {
		for _, at := range append(places(c), 0, 4095, 4096, 1<<24, 1<<40, math.MaxUint64) {
			expectWhere(t, c, at, 0, 0, api.ErrArg)
		}
	}
}

// P8.2: Where of any byte, held against the model.
func TestWhereOfAny(t *testing.T) {
	for _, c := range right() {
		for _, at := range places(c) {
			segment, within, e := whereOf(c, at)
			expectWhere(t, c, at, segment, within, e)
		}
	}
	r := rand.New(rand.NewPCG(8, 3))
	for range 50000 {
		c, at := anyOf(r)
		segment, within, e := whereOf(c, at)
		expectWhere(t, c, at, segment, within, e)
	}
}
