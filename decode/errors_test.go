package decode_test

import (
	"bytes"
	"math"
	"math/rand/v2"
	"testing"

	"fascicle/api"
)

// wrong are configs that may not be.
func wrong() []api.Config {
	return []api.Config{
		{}, config(0, 1), config(0, 65536), config(11, 1), config(11, 65536), config(25, 1), config(25, 65536), config(63, 1), config(64, 1), config(76, 1), config(255, math.MaxUint32),
		config(12, 0), config(12, 65537), config(12, 1<<31), config(12, math.MaxUint32), config(24, 0), config(24, 65537), config(24, math.MaxUint32),
	}
}

// fill gives bytes that are all the same.
func fill(n int, x byte) []byte {
	return bytes.Repeat([]byte{x}, n)
}

// P17.1, P17.2: by a config that may not be, whatever the bytes are: none, an image, whole segments or not, too many.
func TestConfigsThatMayNotBe(t *testing.T) {
	own, l := three()
	b := encode(t, own, l)
	for _, c := range wrong() {
		for _, b := range [][]byte{nil, {}, {0}, {255}, b, b[:4096], b[:4097], b[:2048], b[:1], b[5:], fill(1<<17, 255), fill(100001, 0)} {
			expectError(t, "a config that may not be", c, b, api.ErrArg)
		}
	}
}

// P17.1, P17.2: more bytes than an image may have, whole segments or not; also where they are no image, too, or begin with one.
func TestTooManyBytes(t *testing.T) {
	for _, c := range []api.Config{config(12, 1), config(12, 2), config(13, 1), config(14, 3)} {
		most := sizeOf(c) * int(c.Segments)
		roomy := config(c.Exp, 100)
		for _, x := range []byte{0, 255, 1} {
			for _, more := range []int{1, 2, 100, sizeOf(c) - 1, sizeOf(c), sizeOf(c) + 1, 5 * sizeOf(c)} {
				expectError(t, "too many bytes", c, fill(most+more, x), api.ErrFull)
			}
		}
		full := encode(t, c, []api.Record{put(1, "k", "v")})
		for len(full) <= most {
			full = append(full, full...)
		}
		expectError(t, "images one behind the other", c, full, api.ErrFull)
		expectError(t, "images one behind the other, cut", c, full[:most+1], api.ErrFull)
		l := many(2000)
		b := encode(t, roomy, l)
		expectImage(t, "an image by a roomy config", roomy, b, l)
		if len(b) <= most {
			t.Fatalf("%d bytes aren't too many by %v", len(b), c)
		}
		expectError(t, "an image by a roomy config", c, b, api.ErrFull)
		expectError(t, "an image by a roomy config, cut", c, b[:most+1], api.ErrFull)
	}
}

// P17.1, P17.2: bytes that are no whole segments, though not too many.
func TestNoWholeSegments(t *testing.T) {
	c, l := three()
	b := encode(t, c, l)
	for n := range len(b) + 1 {
		if n%4096 != 0 {
			continue
		}
		for _, less := range []int{1, 2, 255, 2048, 4095} {
			if n > 0 {
				expectError(t, "bytes less", c, b[:n-less], api.ErrForm)
			}
			expectError(t, "bytes more", c, append(b[:n:n], fill(less, 255)...), api.ErrForm)
			expectError(t, "bytes more", c, append(b[:n:n], fill(less, 0)...), api.ErrForm)
		}
	}
	for _, c := range []api.Config{config(12, 2), config(13, 1), config(24, 65536)} {
		for _, n := range []int{1, 255, 4095, 4097, 6000, 8191} {
			expectError(t, "no whole segments", c, fill(n, 255), api.ErrForm)
			expectError(t, "no whole segments", c, fill(n, 0), api.ErrForm)
		}
	}
}

// P17.1, P17.2: the same bytes are as many as may be, too many, no whole segments, or of a config that may not be, by Exp and Segments alone.
func TestErrorsOfHowManyBytesThereAre(t *testing.T) {
	for exp := range uint8(27) {
		for _, segments := range []uint32{0, 1, 2, 3, 16, 65536, 65537} {
			c := config(exp, segments)
			for _, n := range []int{1, 4095, 4096, 4097, 8192, 12288, 16384, 65536, 65537} {
				want := count(c, n)
				if want == api.OK {
					want = api.ErrForm
				}
				expectError(t, "Erased bytes", c, fill(n, 255), want)
				expectError(t, "noughts", c, fill(n, 0), want)
			}
		}
	}
}

// P17.1, R1: bytes that are nothing at all.
func TestAnyBytes(t *testing.T) {
	r := rand.New(rand.NewPCG(17, 2))
	for range 200 {
		c := config(uint8(12+r.IntN(2)), uint32(1+r.IntN(3)))
		b := []byte(text(r, sizeOf(c)*(1+r.IntN(int(c.Segments)))))
		expectError(t, "any bytes", c, b, api.ErrForm)
		copy(b, headOf(c, 0))
		expectError(t, "any bytes behind a head", c, b, api.ErrForm)
	}
}
