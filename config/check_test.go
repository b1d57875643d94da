package config_test

import (
	"math"
	"testing"

	"fascicle/api"
	"fascicle/config"
)

// expectCheck holds Check and Size against what they ought to be.
func expectCheck(t *testing.T, c api.Config, e api.Errno, size int) {
	t.Helper()
	if got := config.Check(c); got != e {
		t.Errorf("Check of %+v: %d; it ought to be %d", c, got, e)
	}
	if got := config.Size(c); got != size {
		t.Errorf("Size of %+v: %d; it ought to be %d", c, got, size)
	}
}

// P8.1: Exps and Segments at their bounds and at their types' ends, all with all: these four may be, no other one.
func TestCheckAtTheBounds(t *testing.T) {
	sizes := map[api.Config]int{
		{Exp: 12, Segments: 1}:     4096,
		{Exp: 12, Segments: 65536}: 4096,
		{Exp: 24, Segments: 1}:     16777216,
		{Exp: 24, Segments: 65536}: 16777216,
	}
	for _, exp := range []uint8{0, 11, 12, 24, 25, math.MaxUint8} {
		for _, segments := range []uint32{0, 1, 65536, 65537, math.MaxUint32} {
			c := api.Config{Exp: exp, Segments: segments}
			size, may := sizes[c]
			e := api.ErrArg
			if may {
				e = api.OK
			}
			expectCheck(t, c, e, size)
		}
	}
}

// P8.1: every Exp that its type has: from 12 to 24 each size is twice the one ahead, else there is none.
func TestCheckOfEachExp(t *testing.T) {
	size := 4096
	for exp := range 256 {
		if exp < 12 || exp > 24 {
			expectCheck(t, api.Config{Exp: uint8(exp), Segments: 7}, api.ErrArg, 0)
			continue
		}
		expectCheck(t, api.Config{Exp: uint8(exp), Segments: 7}, api.OK, size)
		size *= 2
	}
}

// P8.1: every number of Segments that may be, and many that may not; a size doesn't hang on it.
func TestCheckOfEachSegments(t *testing.T) {
	for segments := uint32(1); segments <= 65536; segments++ {
		expectCheck(t, api.Config{Exp: 12, Segments: segments}, api.OK, 4096)
		expectCheck(t, api.Config{Exp: 24, Segments: segments}, api.OK, 16777216)
	}
	for segments := uint32(65537); segments < 140000; segments++ { // whose lower 16 bits alone may be
		expectCheck(t, api.Config{Exp: 12, Segments: segments}, api.ErrArg, 0)
	}
	for bit := 17; bit < 32; bit++ {
		expectCheck(t, api.Config{Exp: 12, Segments: 1 << bit}, api.ErrArg, 0)
		expectCheck(t, api.Config{Exp: 24, Segments: 1<<bit | 1}, api.ErrArg, 0)
	}
}
