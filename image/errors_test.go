package image_test

import (
	"math/rand/v2"
	"slices"
	"strings"
	"testing"

	"fascicle/api"
	"fascicle/record"
)

// expectNotRising holds all against Rising's error (chapter 7).
func expectNotRising(t *testing.T, c api.Config, l []api.Record, want api.Errno) {
	t.Helper()
	if e := record.Rising(l); e != want {
		t.Errorf("Rising of %s tells %d; it ought to be %d", tell(l), e, want)
	}
	expectNone(t, c, l, want)
}

// with puts records between others, at a place.
func with(l []api.Record, at int, more ...api.Record) []api.Record {
	return slices.Insert(slices.Clone(l), at, more...)
}

// mayNot are records that may not be, with Check's errors.
func mayNot() map[api.Errno][]api.Record {
	return map[api.Errno][]api.Record{
		api.ErrForm: {
			{},
			put(1, "", "v"),
			gone(1, ""),
			{Delete: true, Seq: 1, Key: "k", Value: "v"},
			{Delete: true, Seq: 1, Key: "k", Value: of(1<<20 + 1)},
			put(1, "", of(1<<20+1)),
		},
		api.ErrLong: {
			put(1, strings.Repeat("k", 4097), ""),
			gone(1, strings.Repeat("k", 4097)),
			{Delete: true, Seq: 1, Key: strings.Repeat("k", 4097), Value: "v"},
			put(1, "k", of(1<<20+1)),
		},
	}
}

// P16.1: by a config that may not be, whatever the records are: none, some, ones that may not be, don't rise, are too large or too many.
func TestWrongConfigs(t *testing.T) {
	rows := [][]api.Record{nil, {}, many(1), many(20), great(5), {put(1, "k", of(1<<20))}, {put(2, "k", ""), put(1, "k", "")}, {put(1, "k", ""), put(1, "k", "")}}
	for _, l := range mayNot() {
		rows = append(rows, l, l[:1])
	}
	for _, c := range wrong() {
		for _, l := range rows {
			expectNone(t, c, l, api.ErrArg)
		}
	}
}

// P16.1: a record that may not be, first, in the midst and last.
func TestRecordsThatMayNotBe(t *testing.T) {
	for _, c := range []api.Config{config(12, 1), config(12, 2), config(22, 65536)} {
		for want, records := range mayNot() {
			for _, r := range records {
				expectNotRising(t, c, []api.Record{r}, want)
				for at := range 4 {
					r.Seq = uint64(10*at + 5)
					expectNotRising(t, c, with([]api.Record{put(10, "a", "1"), put(20, "b", "2"), gone(30, "a")}, at, r), want)
				}
			}
		}
	}
}

// P16.1: of several records that may not be the first one tells.
func TestSeveralRecordsThatMayNotBe(t *testing.T) {
	c := config(12, 2)
	form, long := put(5, "", ""), put(6, strings.Repeat("k", 4097), "")
	expectNotRising(t, c, []api.Record{form, long}, api.ErrForm)
	expectNotRising(t, c, []api.Record{long, form}, api.ErrLong)
	expectNotRising(t, c, []api.Record{put(1, "a", ""), long, put(2, "a", ""), form}, api.ErrLong)
}

// P16.1: a record that may not be is told ahead of all other things that are wrong, wherever these stand.
func TestRecordsThatMayNotBeAreToldFirst(t *testing.T) {
	c := config(12, 2)
	for want, records := range mayNot() {
		for _, r := range records {
			r.Seq = 100
			for _, l := range [][]api.Record{
				{put(2, "a", ""), put(1, "a", "")},        // they don't rise
				{put(2, "a", ""), put(2, "a", "")},        // the same Seqs
				{put(1, "a", of(5000)), put(2, "a", "")},  // one is too large
				{put(1, "a", ""), put(2, "a", of(1<<20))}, // likewise
				great(3), // too many
				append(great(3), put(3, "a", of(5000)), r),     // all of these
				{put(7, "a", of(4000)), put(7, "a", of(5000))}, // too large, and the same Seqs
			} {
				for at := range len(l) + 1 {
					expectNotRising(t, c, with(l, at, r), want)
				}
			}
		}
	}
}

// P16.1: records that don't rise, at each place.
func TestRecordsThatDoNotRise(t *testing.T) {
	for _, c := range []api.Config{config(12, 1), config(12, 300), config(24, 65536)} {
		for _, l := range [][]api.Record{
			{put(2, "a", ""), put(1, "b", "")},
			{put(1, "a", ""), put(0, "a", "")},
			{put(1<<64-1, "a", ""), put(0, "b", "")},
			{gone(1<<32, "a"), gone(1, "b")},
			{put(1, "a", ""), put(3, "b", ""), put(2, "c", "")},
			{put(3, "a", ""), put(1, "b", ""), put(2, "c", "")},
		} {
			expectNotRising(t, c, l, api.ErrOrder)
		}
		for at := range 20 {
			for _, seq := range []uint64{uint64(at), uint64(at - 1), 1} { // of the record ahead, and below it
				if l := many(20); at > 0 {
					l[at].Seq = seq
					expectNotRising(t, c, l, api.ErrOrder)
				}
			}
		}
	}
}

// P16.1: Seqs that are the same: of unlike records, and of one that is there twice.
func TestSeqsThatAreTheSame(t *testing.T) {
	c := config(12, 300)
	for _, seq := range []uint64{0, 1, 1 << 32, 1<<64 - 1} {
		expectNotRising(t, c, []api.Record{put(seq, "a", "1"), put(seq, "b", "2")}, api.ErrOrder)
		expectNotRising(t, c, []api.Record{put(seq, "a", "1"), put(seq, "a", "1")}, api.ErrOrder)
		expectNotRising(t, c, []api.Record{put(seq, "a", "1"), gone(seq, "a")}, api.ErrOrder)
	}
	for at := range 20 {
		l := many(20)
		expectNotRising(t, c, with(l, at, l[at]), api.ErrOrder)
	}
}

// P16.1: that records don't rise is told ahead of frames that are too large, and of ones that don't fit.
func TestThatTheyDoNotRiseIsToldFirst(t *testing.T) {
	c := config(12, 2)
	last := put(1, "k", "")
	for _, l := range [][]api.Record{
		append(great(2), last),
		append(great(3), last),
		append(great(10), last),
		{put(1, "k", of(5000)), last},
		{put(2, "k", of(5000)), last},
		{put(2, "k", ""), put(1, "k", of(5000))},
		{put(2, "k", ""), put(2, "k", of(1<<20))},
		append(great(5), put(6, "k", of(5000)), last),
	} {
		expectNotRising(t, c, l, api.ErrOrder)
	}
}

// P16.1, P16.2: the greatest frame that isn't too large, and one byte more: the head that counts is that of the greatest number.
func TestTooLarge(t *testing.T) {
	for c, fit := range map[api.Config]int{
		config(12, 1):     4096 - 15 - 39,
		config(12, 127):   4096 - 15 - 39,
		config(12, 128):   4096 - 16 - 39,
		config(12, 129):   4096 - 17 - 39, // into the segments 0 to 127 one byte more would fit
		config(12, 16385): 4096 - 19 - 39,
		config(12, 65536): 4096 - 19 - 39,
		config(13, 2):     8192 - 15 - 39,
		config(16, 65536): 65536 - 19 - 39,
	} {
		expectImage(t, c, frames(t, 1, fit))
		for _, more := range []int{1, 2, 100} {
			expectUnpacked(t, c, frames(t, 1, fit+more), api.ErrTooLarge)
		}
	}
	for exp := uint8(12); exp <= 20; exp++ {
		expectUnpacked(t, config(exp, 65536), []api.Record{put(1, "k", of(1<<20))}, api.ErrTooLarge)
	}
	expectImage(t, config(21, 1), []api.Record{put(1, "k", of(1<<20))})
}

// P16.1, P16.2: one that is too large, first, in the midst and last; also behind full segments.
func TestOneTooLarge(t *testing.T) {
	for _, c := range []api.Config{config(12, 2), config(12, 300), config(12, 65536)} {
		for _, sizes := range [][]int{{100, 200, 300}, {3000, 3000}, {30, 4030}, {2000, 2000, 2000}} {
			for at := range len(sizes) + 1 {
				for _, size := range []int{4043, 4100, 5000, 100000} {
					expectUnpacked(t, c, frames(t, 1, slices.Insert(slices.Clone(sizes), at, size)...), api.ErrTooLarge)
				}
			}
		}
	}
}

// P16.1, P16.2: more than there is room for: by a record, by a byte, by many.
func TestFull(t *testing.T) {
	for _, sizes := range [][]int{
		{3000, 3000, 3000},
		{4042, 4042, 20},
		{4042, 20, 4042},
		{20, 4042, 4042},
		{4000, 30, 4000, 31},
		{2000, 2000, 2000, 2000, 2000},
		{2000, 2030, 2000, 2031},
		{100, 4042, 20}, // though the first segment has room for the last one
	} {
		l := frames(t, 1, sizes...)
		expectUnpacked(t, config(12, 2), l, api.ErrFull)
		expectImage(t, config(12, 3), l)
		expectImage(t, config(12, 2), l[:len(l)-1])
		expectImage(t, config(14, 1), l)
	}
	expectUnpacked(t, config(12, 2), great(3), api.ErrFull)
	expectUnpacked(t, config(12, 2), great(500), api.ErrFull)
	expectUnpacked(t, config(12, 1), many(500), api.ErrFull)
}

// P16.1, P16.2: the last segment, too, keeps the place of a footer that isn't written.
func TestTheLastSegmentKeepsItsFootersPlace(t *testing.T) {
	c := config(12, 1)
	for _, n := range counts() {
		left := sizeOf(c) - usedBy(c, many(n)) - mostOf(n+1)
		expectImage(t, c, append(many(n), exact(t, 900, left)))
		for _, more := range []int{1, 2, 10} {
			expectUnpacked(t, c, append(many(n), exact(t, 900, left+more)), api.ErrFull)
		}
	}
}

// P16.1, P16.2: of frames that are too large and ones that don't fit the first one tells.
func TestTheFirstFrameTells(t *testing.T) {
	for at := range 6 {
		want := api.ErrTooLarge
		if at > 2 {
			want = api.ErrFull
		}
		sizes := slices.Insert([]int{3000, 3000, 3000, 3000, 3000}, at, 5000)
		expectUnpacked(t, config(12, 2), frames(t, 1, sizes...), want)
	}
	expectUnpacked(t, config(12, 2), frames(t, 1, 4042, 4042, 20, 4043), api.ErrFull)
	expectUnpacked(t, config(12, 2), frames(t, 1, 4042, 4042, 4043, 20), api.ErrTooLarge)
}

// P16.1, P16.2: any records by few segments: the error is the one that chapter 14 tells of their frames, and else there is an image.
func TestAnyRecordsByFewSegments(t *testing.T) {
	r := rand.New(rand.NewPCG(16, 2))
	told := map[api.Errno]int{}
	for range 600 {
		c := config(uint8(12+r.IntN(2)), uint32(1+r.IntN(6)))
		l := anyRecords(r, r.IntN(150), 1+r.IntN(400))
		if r.IntN(3) == 0 && len(l) > 0 {
			x := &l[r.IntN(len(l))]
			x.Delete, x.Value = false, of(3900+r.IntN(200))
		}
		_, e := planOf(c, l)
		told[e]++
		if e != api.OK {
			expectUnpacked(t, c, l, e)
			continue
		}
		expectImage(t, c, l)
	}
	for _, e := range []api.Errno{api.OK, api.ErrFull, api.ErrTooLarge} {
		if told[e] < 20 {
			t.Errorf("too few rows of error %d: %d", e, told[e])
		}
	}
}
