package config_test

import (
	"math"
	"testing"

	"fascicle/api"
	"fascicle/config"
)

// standing goes through the bounds of all segments that there are, and tells of each of n bytes in which ones it stands, and how far within.
func standing(c api.Config, n uint64) (in [][]uint64, within []uint64) {
	in, within = make([][]uint64, n), make([]uint64, n)
	for i := range uint64(c.Segments) + 3 {
		from, to, e := config.Bounds(c, n, i)
		if e != api.OK {
			continue
		}
		for at := from; at < to; at++ {
			in[at] = append(in[at], i)
			within[at] = at - from
		}
	}
	return in, within
}

// P8.3: byte by byte: within the greatest image each stands in just one segment's bounds, and this is the one that Where names, as far within; behind it none does.
func TestEachByte(t *testing.T) {
	for _, c := range []api.Config{{Exp: 12, Segments: 1}, {Exp: 12, Segments: 2}, {Exp: 12, Segments: 3}, {Exp: 12, Segments: 7}, {Exp: 13, Segments: 2}, {Exp: 14, Segments: 1}} {
		greatest := uint64(c.Segments) << c.Exp
		for _, n := range around(1, 100, 4096, 5000, 8192, 12288, 16384, 20000, 28672, greatest, greatest+5000) {
			in, within := standing(c, n)
			for at := range n {
				segment, far, e := config.Where(c, at)
				switch {
				case at >= greatest:
					if len(in[at]) != 0 || e != api.ErrNone {
						t.Fatalf("%+v: behind the greatest image byte %d of %d stands in %v, by Where in %d, %d, %d", c, at, n, in[at], segment, far, e)
					}
				case len(in[at]) != 1 || in[at][0] != segment || within[at] != far || e != api.OK:
					t.Fatalf("%+v: byte %d of %d stands in %v, %d within; by Where in %d, %d, %d", c, at, n, in[at], within[at], segment, far, e)
				}
			}
		}
	}
}

// P8.3: of the greatest images: each segment's bounds begin where the ones ahead end, the last ones end where the bytes do; Where names the segment at both ends.
func TestBoundsLieSideBySide(t *testing.T) {
	for _, exp := range []uint8{12, 17, 24} {
		c := api.Config{Exp: exp, Segments: 65536}
		greatest := uint64(65536) << exp
		for _, n := range []uint64{1, 1<<exp + 1, greatest/2 - 1, greatest - 1<<exp, greatest - 1, greatest, greatest + 1, math.MaxUint64} {
			end := uint64(0)
			for i := range uint64(65536 + 2) {
				from, to, e := config.Bounds(c, n, i)
				if e != api.OK {
					continue
				}
				if from != end || to <= from {
					t.Fatalf("%+v: of %d bytes segment %d goes from %d to %d, but the one ahead to %d", c, n, i, from, to, end)
				}
				expectWhere(t, c, from, i, 0, api.OK)
				expectWhere(t, c, to-1, i, to-1-from, api.OK)
				end = to
			}
			if end != min(n, greatest) {
				t.Errorf("%+v: of %d bytes the last segment goes to %d", c, n, end)
			}
		}
	}
}

// P8.2: Count is how many segments have bounds.
func TestCountIsHowManyHaveBounds(t *testing.T) {
	for _, c := range []api.Config{{Exp: 12, Segments: 1}, {Exp: 12, Segments: 65536}, {Exp: 24, Segments: 1}, {Exp: 24, Segments: 65536}} {
		for _, k := range []uint64{0, 1, 2, 1000, 65535, 65536} {
			if k > uint64(c.Segments) {
				continue
			}
			n, have := k<<c.Exp, uint32(0)
			for i := range uint64(c.Segments) + 1 {
				if _, _, e := config.Bounds(c, n, i); e == api.OK {
					have++
				}
			}
			expectCount(t, c, n, have, api.OK)
		}
	}
}
