package decode_test

import (
	"math"
	"math/rand/v2"
	"strings"
	"testing"

	"fascicle/api"
)

// rows are rows of records that have an image by each of configs: some of them go into several segments.
func rows() [][]api.Record {
	_, l := three()
	all := [][]api.Record{
		nil,
		{},
		{put(1, "a", "b")},
		{gone(1, "a")},
		{put(0, "a", "")},
		{put(math.MaxUint64, "a", "")},
		{put(0, "a", "x"), put(math.MaxUint64, "a", "y")},
		{put(1, "a", "1"), put(2, "a", "2"), put(3, "a", "1"), gone(4, "a"), gone(5, "a")},
		{put(1, "\x00", "\x00"), put(2, "\xff", "\xff"), put(3, "\xff\x00", strings.Repeat("\xff", 1000)), put(4, "\x00\x00", strings.Repeat("\x00\xff", 500))},
		{put(7, strings.Repeat("k", 3900), "v"), put(8, "v", of(3900)), gone(9, strings.Repeat("k", 3900))},
		{put(5, "a", of(252)), put(50, "b", of(253)), put(500, "c", of(254)), put(5000, "d", of(3900)), put(50000, "e", "f")},
		l,
	}
	for _, n := range []int{2, 15, 16, 17, 18, 33, 70, 140, 141, 142, 143, 200} {
		all = append(all, many(n))
	}
	for _, n := range []int{2, 3, 4} {
		all = append(all, great(n))
	}
	return all
}

// configs are some by which each of rows has an image.
func configs() []api.Config {
	return []api.Config{config(12, 5), config(12, 128), config(12, 300), config(12, 65536), config(13, 4), config(14, 20000), config(16, 1), config(16, 65536)}
}

// The chapter's example: of no bytes, nil and empty, no records, by each config that may be.
func TestOfNoBytes(t *testing.T) {
	for _, c := range append(configs(), config(12, 1), config(24, 1), config(24, 65536)) {
		for _, b := range [][]byte{nil, {}, make([]byte, 0, 4096), make([]byte, 8)[8:]} {
			expectImage(t, "no bytes", c, b, nil)
		}
	}
}

// P17.1, P17.2: what was encoded is decoded: no records, one, many; in one segment and in several.
func TestOfImages(t *testing.T) {
	for _, c := range configs() {
		for _, l := range rows() {
			expectImage(t, "an image", c, encode(t, c, l), l)
		}
	}
}

// P17.1: each beginning of a row has an image of its own.
func TestOfEachBeginning(t *testing.T) {
	c, l := three()
	for n := range len(l) + 1 {
		expectImage(t, "a beginning", c, encode(t, c, l[:n]), l[:n])
	}
}

// P17.1, P17.2: records that just fill one segment, and one more, which takes a segment of its own, however small it is.
func TestOfOneFullSegment(t *testing.T) {
	for _, c := range []api.Config{config(12, 2), config(12, 300), config(13, 2), config(14, 65536)} {
		for _, n := range []int{1, 2, 15, 16, 17} {
			l := many(n - 1)
			x := lay(c, 0, l)
			least := len(headOf(c, c.Segments-1)) - len(headOf(c, 0)) // a frame that goes by the shortest head alone is too large
			left := sizeOf(c) - len(x.frames) - mostOf(n) - least
			l = append(l, exact(t, 100, left))
			b := encode(t, c, l)
			if len(b) != sizeOf(c) {
				t.Fatalf("by %v %s take %d bytes", c, tell(l), len(b))
			}
			expectImage(t, "one full segment", c, b, l)
			more := append(l, gone(101, strings.Repeat("k", 50)))
			b = encode(t, c, more)
			if len(b) != 2*sizeOf(c) {
				t.Fatalf("by %v %s take %d bytes", c, tell(more), len(b))
			}
			expectImage(t, "a record more", c, b, more)
		}
	}
}

// P17.1: all segments that an image may have.
func TestOfAllSegments(t *testing.T) {
	for _, c := range []api.Config{config(12, 1), config(12, 2), config(12, 3), config(12, 130)} {
		l := great(int(c.Segments))
		expectImage(t, "all segments", c, encode(t, c, l), l)
		l = append(l, gone(1<<50, "k"))
		expectImage(t, "all segments, and a record more in the last one", c, encode(t, c, l), l)
	}
}

// P17.1, P17.2: more segments than a number of one byte tells, and the greatest segments.
func TestOfManyAndGreatSegments(t *testing.T) {
	l := great(300)
	expectImage(t, "many segments", config(12, 65536), encode(t, config(12, 65536), l), l)
	value := strings.Repeat("\x00", 1<<20)
	l = nil
	for i := range 20 {
		l = append(l, put(uint64(i), strings.Repeat("k", 4096), value))
	}
	expectImage(t, "great segments", config(24, 65536), encode(t, config(24, 65536), l), l)
}

// P1, P17.3: what was encoded is decoded, of any records that rise.
func TestOfAnyImages(t *testing.T) {
	r := rand.New(rand.NewPCG(17, 1))
	for round := range 150 {
		c := config(uint8(12+r.IntN(3)), uint32(20+r.IntN(300)))
		l := rising(r, r.IntN(80), []int{1, 20, 300, 1900}[round%4])
		if _, ok := encoded(c, l); ok {
			expectImage(t, "any records", c, encode(t, c, l), l)
		}
	}
}
