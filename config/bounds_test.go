package config_test

import (
	"math"
	"math/rand/v2"
	"testing"

	"fascicle/api"
	"fascicle/config"
)

// expectBounds holds Bounds against what they ought to be.
func expectBounds(t *testing.T, c api.Config, n, i, from, to uint64, wantE api.Errno) {
	t.Helper()
	if a, b, e := config.Bounds(c, n, i); a != from || b != to || e != wantE {
		t.Errorf("Bounds of %d bytes, segment %d, by %+v: %d, %d, %d; they ought to be %d, %d, %d", n, i, c, a, b, e, from, to, wantE)
	}
}

// bounded is what the Bounds of n bytes, segment i, ought to be.
type bounded struct {
	n, i, from, to uint64
	e              api.Errno
}

const most = math.MaxUint64

// P8.2: Bounds of bytes that end within a segment, at its end, behind the greatest image, and of none.
func TestBounds(t *testing.T) {
	for c, l := range map[api.Config][]bounded{
		{Exp: 12, Segments: 2}: {
			{5000, 1, 4096, 5000, api.OK}, // the chapter's example
			{5000, 0, 0, 4096, api.OK}, {5000, 2, 0, 0, api.ErrNone},
			{0, 0, 0, 0, api.ErrNone}, {0, 1, 0, 0, api.ErrNone},
			{1, 0, 0, 1, api.OK}, {1, 1, 0, 0, api.ErrNone},
			{4095, 0, 0, 4095, api.OK}, {4095, 1, 0, 0, api.ErrNone},
			{4096, 0, 0, 4096, api.OK}, {4096, 1, 0, 0, api.ErrNone},
			{4097, 0, 0, 4096, api.OK}, {4097, 1, 4096, 4097, api.OK},
			{8191, 1, 4096, 8191, api.OK}, {8192, 1, 4096, 8192, api.OK}, {8193, 1, 4096, 8192, api.OK},
			{8192, 2, 0, 0, api.ErrNone}, {8193, 2, 0, 0, api.ErrNone}, {20000, 2, 0, 0, api.ErrNone}, {20000, 3, 0, 0, api.ErrNone},
			{most, 0, 0, 4096, api.OK}, {most, 1, 4096, 8192, api.OK}, {most, 2, 0, 0, api.ErrNone}, {most, most, 0, 0, api.ErrNone},
		},
		{Exp: 12, Segments: 1}: {
			{0, 0, 0, 0, api.ErrNone}, {5000, 0, 0, 4096, api.OK}, {5000, 1, 0, 0, api.ErrNone}, {most, 0, 0, 4096, api.OK}, {most, 1, 0, 0, api.ErrNone},
		},
		{Exp: 24, Segments: 1}: {
			{0, 0, 0, 0, api.ErrNone}, {5000, 0, 0, 5000, api.OK}, {1<<24 + 1, 0, 0, 1 << 24, api.OK}, {1<<24 + 1, 1, 0, 0, api.ErrNone}, {most, 1, 0, 0, api.ErrNone},
		},
		{Exp: 24, Segments: 65536}: {
			{0, 0, 0, 0, api.ErrNone}, {1 << 24, 1, 0, 0, api.ErrNone}, {1<<24 + 5, 1, 1 << 24, 1<<24 + 5, api.OK},
			{1<<40 - 1<<24, 65534, 1<<40 - 2<<24, 1<<40 - 1<<24, api.OK}, {1<<40 - 1<<24, 65535, 0, 0, api.ErrNone},
			{1<<40 - 1<<24 + 1, 65535, 1<<40 - 1<<24, 1<<40 - 1<<24 + 1, api.OK},
			{1<<40 - 1, 65535, 1<<40 - 1<<24, 1<<40 - 1, api.OK}, {1 << 40, 65535, 1<<40 - 1<<24, 1 << 40, api.OK}, {1<<40 + 1, 65535, 1<<40 - 1<<24, 1 << 40, api.OK},
			{1<<40 + 1, 65536, 0, 0, api.ErrNone}, {most, 65535, 1<<40 - 1<<24, 1 << 40, api.OK}, {most, 65536, 0, 0, api.ErrNone},
		},
	} {
		for _, x := range l {
			expectBounds(t, c, x.n, x.i, x.from, x.to, x.e)
		}
	}
}

// P8.2: segments whose number, cut to fewer bits or times the size, goes round to one that there is: there are none.
func TestBoundsOfSegmentsThatGoRound(t *testing.T) {
	for _, exp := range []uint8{12, 24} {
		round := uint64(1) << (64 - exp) // times the size: 2^64
		for _, c := range []api.Config{{Exp: exp, Segments: 1}, {Exp: exp, Segments: 2}, {Exp: exp, Segments: 65536}} {
			for _, n := range []uint64{0, 1, 5000, 1 << 24, 1<<24 + 1, 1 << 40, 1<<40 + 1, 1 << 63, most - 1, most} {
				for _, i := range []uint64{65536, 1 << 31, 1 << 32, 1<<32 + 1, 1<<32 + 65535, round - 1, round, round + 1, round + 65535, 2 * round, 3*round + 1, 1 << 63, most - 1, most} {
					expectBounds(t, c, n, i, 0, 0, api.ErrNone)
				}
			}
		}
	}
}

// P8.2, R3: by a config that may not be: ErrArg and no bounds, also where there is no such segment.
func TestBoundsByWrongConfigs(t *testing.T) {
	for _, c := range wrong() {
		for _, n := range places(c) {
			for _, i := range segments(c) {
				expectBounds(t, c, n, i, 0, 0, api.ErrArg)
			}
		}
	}
}

// P8.2: Bounds of any bytes and any segment, held against the model.
func TestBoundsOfAny(t *testing.T) {
	for _, c := range right() {
		for _, n := range places(c) {
			for _, i := range segments(c) {
				from, to, e := boundsOf(c, n, i)
				expectBounds(t, c, n, i, from, to, e)
			}
		}
	}
	r := rand.New(rand.NewPCG(8, 2))
	for range 50000 {
		c, n := anyOf(r)
		i := r.Uint64() >> r.IntN(65)
		if r.IntN(4) > 0 {
			i = r.Uint64N(min(n>>c.Exp, 65536) + 3)
		}
		from, to, e := boundsOf(c, n, i)
		expectBounds(t, c, n, i, from, to, e)
	}
}
