package lookup_test

import (
	"bytes"
	"math"
	"testing"

	"fascicle/api"
)

// wrong are configs that may not be.
func wrong() []api.Config {
	return []api.Config{
		{}, config(0, 1), config(0, 65536), config(11, 1), config(11, 65536), config(25, 1), config(25, 65536), config(63, 1), config(64, 1), config(76, 1), config(255, math.MaxUint32),
		config(12, 0), config(12, 65537), config(12, 1<<31), config(12, math.MaxUint32), config(24, 0), config(24, 65537), config(24, math.MaxUint32),
	}
}

// fill gives bytes that are all the same.
func fill(n int, x byte) []byte {
	return bytes.Repeat([]byte{x}, n)
}

// P19.1: by a config that may not be, whatever the bytes are: none, an image, whole segments or not, too many.
func TestConfigsThatMayNotBe(t *testing.T) {
	own, l := three()
	b := encode(t, own, l)
	for _, c := range wrong() {
		for _, b := range [][]byte{nil, {}, {0}, {255}, b, b[:4096], b[:4097], b[:2048], b[:1], b[5:], fill(1<<17, 255), fill(100001, 0)} {
			expectError(t, "a config that may not be", c, b, api.ErrArg)
		}
	}
}

// P19.1: more bytes than an image may have, whole segments or not; also where they begin with an image, or are one by another config.
func TestTooManyBytes(t *testing.T) {
	for _, c := range []api.Config{config(12, 1), config(12, 2), config(13, 1), config(14, 3)} {
		most := sizeOf(c) * int(c.Segments)
		for _, x := range []byte{0, 255, 1} {
			for _, more := range []int{1, 2, 100, sizeOf(c) - 1, sizeOf(c), sizeOf(c) + 1, 5 * sizeOf(c)} {
				expectError(t, "too many bytes", c, fill(most+more, x), api.ErrFull)
			}
		}
		full := encode(t, c, []api.Record{put(1, "k", "v")})
		for len(full) <= most {
			full = append(full, full...)
		}
		expectError(t, "images one behind the other", c, full, api.ErrFull)
		expectError(t, "images one behind the other, cut", c, full[:most+1], api.ErrFull)
		b := encode(t, config(c.Exp, 100), many(2000))
		if len(b) <= most {
			t.Fatalf("%d bytes aren't too many by %v", len(b), c)
		}
		expectError(t, "an image by a roomy config", c, b, api.ErrFull)
		expectError(t, "an image by a roomy config, cut", c, b[:most+1], api.ErrFull)
	}
}

// P19.1: bytes that are no whole segments, though not too many.
func TestNoWholeSegments(t *testing.T) {
	c, l := three()
	b := encode(t, c, l)
	for n := 0; n <= len(b); n += sizeOf(c) {
		for _, less := range []int{1, 2, 255, 2048, 4095} {
			if n > 0 {
				expectError(t, "bytes less", c, b[:n-less], api.ErrForm)
			}
			expectError(t, "bytes more", c, append(b[:n:n], fill(less, 255)...), api.ErrForm)
			expectError(t, "bytes more", c, append(b[:n:n], fill(less, 0)...), api.ErrForm)
		}
	}
	for _, c := range []api.Config{config(12, 2), config(13, 1), config(24, 65536)} {
		for _, n := range []int{1, 255, 4095, 4097, 6000, 8191} {
			expectError(t, "no whole segments", c, fill(n, 255), api.ErrForm)
			expectError(t, "no whole segments", c, fill(n, 0), api.ErrForm)
		}
	}
}
