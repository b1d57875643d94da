package pack_test

import (
	"math/rand/v2"
	"slices"
	"testing"

	"fascicle/api"
	"fascicle/pack"
)

// begin shows a list, or how it begins.
func begin[T any](l []T) []T {
	return l[:min(len(l), 40)]
}

// expectPlan holds Plan against what it ought to tell.
func expectPlan(t *testing.T, c api.Config, sizes []int, want []uint32, wantE api.Errno) {
	t.Helper()
	got, e := pack.Plan(c, sizes)
	if e != wantE || !slices.Equal(got, want) {
		t.Errorf("Plan of %v, %d frames %v: %v, %d; it ought to be %v, %d", c, len(sizes), begin(sizes), begin(got), e, begin(want), wantE)
	}
}

// byRooms goes room by room with Empty, Fits and Take.
func byRooms(c api.Config, sizes []int) ([]uint32, api.Errno) {
	r, e := pack.Empty(c, 0)
	if e != api.OK {
		return nil, e
	}
	var numbers []uint32
	for _, size := range sizes {
		if pack.TooLarge(c, size) {
			return nil, api.ErrTooLarge
		}
		if !r.Fits(size) {
			if r, e = pack.Empty(c, r.Number+1); e != api.OK {
				return nil, api.ErrFull
			}
		}
		if r, e = r.Take(size); e != api.OK {
			return nil, e
		}
		numbers = append(numbers, r.Number)
	}
	return numbers, api.OK
}

// expectPacked holds Plan against the model and against going room by room, and tells what the model told.
func expectPacked(t *testing.T, c api.Config, sizes []int) ([]uint32, api.Errno) {
	t.Helper()
	want, wantE := newModel().plan(c, sizes)
	expectPlan(t, c, sizes, want, wantE)
	if numbers, e := byRooms(c, sizes); e != wantE || !slices.Equal(numbers, want) {
		t.Errorf("room by room of %v, %d frames %v: %v, %d; it ought to be %v, %d", c, len(sizes), begin(sizes), begin(numbers), e, begin(want), wantE)
	}
	return want, wantE
}

// same gives n times one size.
func same(n, size int) []int {
	return slices.Repeat([]int{size}, n)
}

// zeros gives n times the number 0.
func zeros(n int) []uint32 {
	return make([]uint32, n)
}

// P14.2: the chapter's example, and the same two frames with two segments.
func TestPlanOfTheExample(t *testing.T) {
	expectPlan(t, config(12, 1), []int{3000, 3000}, nil, api.ErrFull)
	expectPlan(t, config(12, 2), []int{3000, 3000}, []uint32{0, 1}, api.OK)
	expectPlan(t, config(12, 2), []int{3000, 3000, 3000}, nil, api.ErrFull)
	expectPlan(t, config(13, 1), []int{3000, 3000}, []uint32{0, 0}, api.OK)
}

// P14.2: a frame goes into the last room or the next one, also if it would fit into one ahead.
func TestPlanGoesOnlyOnward(t *testing.T) {
	expectPlan(t, config(12, 3), []int{2000, 3000, 1000, 1, 500, 1}, []uint32{0, 1, 1, 1, 2, 2}, api.OK)
	expectPlan(t, config(12, 3), []int{100, 4000, 30, 4000}, []uint32{0, 1, 1, 2}, api.OK)
	expectPlan(t, config(12, 3), []int{100, 4000, 30, 4000, 30}, []uint32{0, 1, 1, 2, 2}, api.OK)
	expectPlan(t, config(12, 3), []int{100, 4000, 31, 3999}, []uint32{0, 1, 2, 2}, api.OK)
	expectPlan(t, config(12, 3), []int{100, 4000, 31, 3999, 1}, nil, api.ErrFull) // though the segment 0 has room for it
}

// P14.2: no frames.
func TestPlanOfNothing(t *testing.T) {
	for _, c := range right() {
		expectPlan(t, c, nil, nil, api.OK)
		expectPlan(t, c, []int{}, nil, api.OK)
		expectPlan(t, c, []int{5000, -1}[:0], nil, api.OK)
	}
}

// P14.2: one frame: the least one, the greatest that isn't too large, and one more.
func TestPlanOfOne(t *testing.T) {
	for _, c := range right() {
		fit := sizeOf(c) - headOf(c, c.Segments-1) - 39
		for _, size := range []int{1, 2, 100, fit - 1, fit} {
			expectPlan(t, c, []int{size}, []uint32{0}, api.OK)
		}
		for _, size := range append(append(small(), huge()...), fit+1, fit+2, sizeOf(c)) {
			expectPlan(t, c, []int{size}, nil, api.ErrTooLarge)
		}
	}
}

// P14.2: frames that just fill their segments, and one byte more in each place.
func TestPlanOfFramesThatJustFill(t *testing.T) {
	c := config(12, 3)
	just := []int{4042, 4000, 30, 1000, 3017} // 15, 4030 and 51; 15, 4017 and 51, and 13 are left
	expectPlan(t, c, just, []uint32{0, 1, 1, 2, 2}, api.OK)
	expectPlan(t, c, []int{4043, 4000, 30}, nil, api.ErrTooLarge)
	expectPlan(t, c, []int{4042, 4000, 31, 1000, 3017}, nil, api.ErrFull)
	expectPlan(t, c, []int{4042, 4000, 30, 1000, 3030}, []uint32{0, 1, 1, 2, 2}, api.OK)
	expectPlan(t, c, []int{4042, 4000, 30, 1000, 3031}, nil, api.ErrFull)
	expectPlan(t, c, []int{4042, 4042, 4042}, []uint32{0, 1, 2}, api.OK)
	expectPlan(t, c, []int{4042, 4042, 4042, 1}, nil, api.ErrFull)
	expectPlan(t, c, []int{1, 4042, 4042}, []uint32{0, 1, 2}, api.OK)
	expectPlan(t, c, []int{4042, 1, 4042}, []uint32{0, 1, 2}, api.OK)
	expectPlan(t, c, []int{1, 1, 4042, 1}, []uint32{0, 0, 1, 2}, api.OK)
}

// P14.2: what just goes into one segment, frame by frame of one size, and one frame more.
func TestPlanOfFullSegments(t *testing.T) {
	for _, size := range []int{1, 2, 5, 14, 20, 30, 100, 254, 1000, 1500, 2000} {
		r := empty(t, config(12, 1), 0)
		for r.Fits(size) {
			r = take(t, r, size)
		}
		n := r.Count
		expectPlan(t, config(12, 1), same(n, size), zeros(n), api.OK)
		expectPlan(t, config(12, 1), same(n+1, size), nil, api.ErrFull)
		expectPlan(t, config(12, 2), same(n+1, size), append(zeros(n), 1), api.OK)
		if left := r.Left(); left > 0 {
			expectPlan(t, config(12, 1), append(same(n, size), left), zeros(n+1), api.OK)
			expectPlan(t, config(12, 1), append(same(n, size), left+1), nil, api.ErrFull)
		}
	}
}

// P14.2: where the footer takes one fence more for one entry more, the frame that it takes its place from goes on.
func TestPlanWhereAFenceIsMore(t *testing.T) {
	c := config(12, 2)
	fifteen := same(15, 20)
	for last, want := range map[int]uint32{
		3562: 0, // behind fifteen frames of 20 and the head 4096 - 315 - 219
		3563: 1,
	} {
		expectPlan(t, c, append(fifteen, last), append(zeros(15), want), api.OK)
	}
	sixteen := append(slices.Clone(fifteen), 3000)
	for last, want := range map[int]uint32{
		542: 0, // 4096 - 3315 - 239; with no fence more it would be 550
		543: 1,
		550: 1,
	} {
		expectPlan(t, c, append(sixteen, last), append(zeros(16), want), api.OK)
	}
}

// P14.2: one that is too large, first, in the midst and last: no frame ahead of it counts.
func TestPlanOfOneTooLarge(t *testing.T) {
	for _, c := range []api.Config{config(12, 2), config(12, 200), config(13, 3), config(24, 65536)} {
		fit := sizeOf(c) - headOf(c, c.Segments-1) - 39
		for at := range 4 {
			for _, size := range append(append(small(), huge()...), fit+1, fit+2, 2*fit) {
				l := []int{100, 200, 300}
				expectPlan(t, c, slices.Insert(l, at, size), nil, api.ErrTooLarge)
			}
		}
	}
}

// P14.2: too large is told of a frame that would fit into the segments with shorter heads.
func TestPlanAsksForTheLongestHead(t *testing.T) {
	for c, fit := range map[api.Config]int{config(12, 129): 4040, config(12, 16385): 4038, config(12, 65536): 4038} {
		expectPlan(t, c, []int{fit}, zeros(1), api.OK)
		expectPlan(t, c, []int{fit, fit}, []uint32{0, 1}, api.OK)
		expectPlan(t, c, []int{fit + 1}, nil, api.ErrTooLarge)
		if !empty(t, c, 0).Fits(fit + 1) {
			t.Errorf("%d bytes don't fit into segment 0 of %v", fit+1, c)
		}
		expectPlan(t, c, []int{1, fit + 1}, nil, api.ErrTooLarge)
	}
}

// P14.2: frame by frame: the error of the frame that comes first is told, and of one frame that it is too large.
func TestPlanTellsTheFirstError(t *testing.T) {
	c := config(12, 2)
	expectPlan(t, c, []int{3000, 3000, 4043}, nil, api.ErrTooLarge)
	expectPlan(t, c, []int{3000, 3000, 3000, 4043}, nil, api.ErrFull)
	expectPlan(t, c, []int{3000, 3000, 3000, greatest}, nil, api.ErrFull)
	expectPlan(t, c, []int{3000, 3000, 3000, 0, -1}, nil, api.ErrFull)
	expectPlan(t, c, []int{3000, 4043, 3000, 3000}, nil, api.ErrTooLarge)
	expectPlan(t, c, []int{0, 3000, 3000, 3000}, nil, api.ErrTooLarge)
	expectPlan(t, c, []int{4042, 4042, 0}, nil, api.ErrTooLarge)
	expectPlan(t, c, []int{4042, 4042, 1, 0}, nil, api.ErrFull)
	expectPlan(t, c, []int{4042, 4042, 4042, 4043}, nil, api.ErrFull)
	for at := range 6 {
		want := api.ErrTooLarge
		if at > 2 {
			want = api.ErrFull
		}
		expectPlan(t, c, slices.Insert(same(5, 3000), at, 5000), nil, want)
	}
}

// P14.2: by a config that may not be, also with frames that are too large, or that there are too many of.
func TestPlanByWrongConfigs(t *testing.T) {
	for _, c := range wrong() {
		for _, l := range [][]int{nil, {}, {1}, {10, 20}, {0}, {-1}, {5000}, {greatest}, {10, 5000}, same(5, 3000), small(), huge()} {
			expectPlan(t, c, l, nil, api.ErrArg)
		}
	}
}

// P14.2, P14.3: as many segments as there may be, one frame each, and one frame more.
func TestPlanOfAllSegments(t *testing.T) {
	for _, segments := range []uint32{1, 2, 127, 128, 129, 16384, 65536} {
		c := config(12, segments)
		numbers := make([]uint32, segments)
		for i := range numbers {
			numbers[i] = uint32(i)
		}
		l := same(int(segments), 4000)
		expectPlan(t, c, l, numbers, api.OK)
		expectPlan(t, c, append(l, 4000), nil, api.ErrFull)
		expectPlan(t, c, append(l, 1), append(numbers, segments-1)[:len(l)+1], api.OK)
		expectPlan(t, c, append(l, 5000), nil, api.ErrTooLarge)
		expectPlan(t, c, append(l, 4000, 5000), nil, api.ErrFull)
	}
}

// P14.2: the head of a segment that is far on is longer, so that a frame less may fit.
func TestPlanOfLongerHeads(t *testing.T) {
	c := config(12, 300)
	pair := []int{2000, 2029} // 16 bytes of a head, they, and 51 of a footer are 4096; from the segment 128 on the head has 17
	numbers, e := expectPacked(t, c, slices.Repeat(pair, 140))
	if e != api.OK || numbers[255] != 127 || numbers[256] != 128 || numbers[257] != 129 || numbers[279] != 151 {
		t.Errorf("frames that fill the segments up to 127: %v, %d", numbers, e)
	}
}

// P14.2: many of several sizes, by several configs, up to where there is no next segment.
func TestPlanOfMany(t *testing.T) {
	r := rand.New(rand.NewPCG(14, 2))
	told := map[api.Errno]int{}
	for range 1500 {
		c := config(uint8(12+r.IntN(3)), uint32(1+r.IntN(6)))
		if r.IntN(4) == 0 {
			c.Segments = uint32(1 + r.IntN(300))
		}
		l := sizes(r, r.IntN(200), 1+r.IntN(2000))
		if r.IntN(3) == 0 && len(l) > 0 {
			l[r.IntN(len(l))] = 4000 + r.IntN(100)
		}
		_, e := expectPacked(t, c, l)
		told[e]++
	}
	for _, e := range []api.Errno{api.OK, api.ErrFull, api.ErrTooLarge} {
		if told[e] < 50 {
			t.Errorf("too few plans of error %d: %d", e, told[e])
		}
	}
}

// P14.2: rows of few sizes that just fit or don't, all of them.
func TestPlanOfAllSmallRows(t *testing.T) {
	few := []int{0, 1, 12, 13, 14, 2000, 2015, 2016, 4029, 4030, 4041, 4042, 4043}
	for _, c := range []api.Config{config(12, 1), config(12, 2)} {
		for _, a := range few {
			for _, b := range few {
				expectPacked(t, c, []int{a, b})
				for _, d := range few {
					expectPacked(t, c, []int{a, b, d})
				}
			}
		}
	}
}

// P14.2: very many frames of one byte into the greatest segment, and one more.
func TestPlanOfVeryMany(t *testing.T) {
	const n = 1238240 // as many as there is room for
	expectPlan(t, config(24, 2), same(n, 1), zeros(n), api.OK)
	expectPlan(t, config(24, 2), same(n+1, 1), append(zeros(n), 1), api.OK)
	expectPlan(t, config(24, 1), same(n+1, 1), nil, api.ErrFull)
}
