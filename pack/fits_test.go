package pack_test

import (
	"math"
	"math/rand/v2"
	"testing"

	"fascicle/api"
	"fascicle/pack"
)

// empty gives an empty room.
func empty(t *testing.T, c api.Config, number uint32) pack.Room {
	t.Helper()
	r, e := pack.Empty(c, number)
	if e != api.OK {
		t.Fatalf("Empty of %v, %d: %v, %d", c, number, r, e)
	}
	return r
}

// take gives a room with frames more.
func take(t *testing.T, r pack.Room, sizes ...int) pack.Room {
	t.Helper()
	for _, size := range sizes {
		next, e := r.Take(size)
		if e != api.OK {
			t.Fatalf("Take of %d into %v: %v, %d", size, r, next, e)
		}
		r = next
	}
	return r
}

// with gives an empty room with n frames of so many bytes.
func with(t *testing.T, c api.Config, number uint32, n, size int) pack.Room {
	t.Helper()
	r := empty(t, c, number)
	for range n {
		r = take(t, r, size)
	}
	return r
}

// expectFits holds Fits and Take against what they ought to tell.
func expectFits(t *testing.T, r pack.Room, size int, want bool) {
	t.Helper()
	was := r
	if got := r.Fits(size); got != want {
		t.Errorf("Fits of %d into %v: %t", size, r, got)
	}
	wantRoom, wantE := pack.Room{}, api.ErrFull
	if want {
		wantRoom = pack.Room{Config: was.Config, Number: was.Number, Used: was.Used + size, Count: was.Count + 1}
		wantE = api.OK
	}
	if got, e := r.Take(size); got != wantRoom || e != wantE {
		t.Errorf("Take of %d into %v: %v, %d; it ought to be %v, %d", size, was, got, e, wantRoom, wantE)
	}
	if r != was {
		t.Errorf("Fits or Take of %d changed %v to %v", size, was, r)
	}
}

// expectLeft holds Left against a number, and Fits and Take at all edges.
func expectLeft(t *testing.T, r pack.Room, want int) {
	t.Helper()
	if got := r.Left(); got != want {
		t.Errorf("Left of %v: %d; it ought to be %d", r, got, want)
	}
	for _, size := range small() {
		expectFits(t, r, size, false)
	}
	for _, size := range huge() {
		expectFits(t, r, size, false)
	}
	expectFits(t, r, 1, want >= 1)
	expectFits(t, r, want, want >= 1)
	expectFits(t, r, want+1, false)
	expectFits(t, r, want+2, false)
	if want > 1 {
		expectFits(t, r, want-1, true)
		expectFits(t, r, want/2+1, true)
	}
}

// P14.1: the edges of rooms worked out by hand: 4096 less 15 bytes of a head and 39 of a footer of one entry are 4042.
func TestFitsOfKnownRooms(t *testing.T) {
	r := empty(t, config(12, 1), 0)
	expectLeft(t, r, 4042)
	expectLeft(t, take(t, r, 100), 4096-15-100-51)
	expectLeft(t, take(t, r, 4042), 0)
	expectLeft(t, take(t, r, 4029), 1) // 15, 4029, 1 and 51 for two entries
	expectLeft(t, take(t, r, 4030), 0)
	expectLeft(t, take(t, r, 4029, 1), 0)
	expectLeft(t, empty(t, config(12, 65536), 0), 4096-17-39)
	expectLeft(t, empty(t, config(12, 65536), 65535), 4096-19-39)
	expectLeft(t, empty(t, config(24, 1), 0), 1<<24-15-39)
}

// P14.1: for one entry more the footer has 12 bytes more, but 8 more for the entries 17, 33 .., each with a fence, and one more where the stuffing needs it.
func TestFitsWhereAFenceIsMore(t *testing.T) {
	c := config(12, 1)
	for n, want := range map[int]int{
		14: 4096 - 15 - 14*20 - 207,
		15: 4096 - 15 - 15*20 - 219,
		16: 4096 - 15 - 16*20 - 239, // one fence more: 12 and 8
		17: 4096 - 15 - 17*20 - 251,
		18: 4096 - 15 - 18*20 - 264, // one byte more by the stuffing: 12 and 1
	} {
		expectLeft(t, with(t, c, 0, n, 20), want)
	}
	m := newModel()
	for _, n := range []int{31, 32, 33, 47, 48, 49, 63, 64, 65, 79, 80, 81} {
		r := with(t, c, 0, n, 20)
		expectLeft(t, r, m.left(r))
	}
}

// P14.1: a frame that would fit but for a fence more doesn't.
func TestFitsCountsTheFence(t *testing.T) {
	fifteen := with(t, config(12, 1), 0, 15, 20)
	r := take(t, fifteen, fifteen.Left()-20) // so that the footer of 17 entries has just its place
	expectLeft(t, r, 0)
	r = take(t, fifteen, fifteen.Left()-21)
	expectLeft(t, r, 1)
	expectLeft(t, take(t, r, 1), 0)
}

// P14.1: Left of each room on the way till nothing fits, with frames of one size.
func TestLeftBehindEachOfMany(t *testing.T) {
	m := newModel()
	for _, c := range []api.Config{config(12, 1), config(12, 65536), config(13, 3)} {
		for _, size := range []int{1, 2, 13, 14, 25, 100, 255, 1000, 2000, 4000} {
			r := empty(t, c, c.Segments-1)
			n := 0
			for ; r.Fits(size); n++ {
				expectLeft(t, r, m.left(r))
				r = take(t, r, size)
			}
			expectLeft(t, r, m.left(r))
			if r.Count != n || r.Used != headOf(c, c.Segments-1)+n*size {
				t.Errorf("with %d frames of %d bytes: %v", n, size, r)
			}
		}
	}
}

// P14.1: Left of rooms with frames of any sizes.
func TestLeftOfAnyRooms(t *testing.T) {
	m := newModel()
	r := rand.New(rand.NewPCG(14, 1))
	for range 100 {
		c := config(uint8(12+r.IntN(4)), 1+uint32(r.IntN(65536)))
		room := empty(t, c, uint32(r.IntN(int(c.Segments))))
		for most := 1 + r.IntN(2000); ; {
			want := m.left(room)
			expectLeft(t, room, want)
			size := 1 + r.IntN(most)
			if want < size {
				break
			}
			room = take(t, room, size)
		}
		expectLeft(t, take(t, room, fill(room)...), 0)
	}
}

// fill gives the frame that just fills a room; nothing, if none fits.
func fill(r pack.Room) []int {
	if n := r.Left(); n > 0 {
		return []int{n}
	}
	return nil
}

// P14.1: every size of a whole segment, in an empty room and in one with records.
func TestFitsOfEachSize(t *testing.T) {
	m := newModel()
	c := config(12, 200)
	for _, r := range []pack.Room{empty(t, c, 0), empty(t, c, 199), with(t, c, 0, 15, 30), with(t, c, 0, 16, 30), with(t, c, 199, 17, 30), take(t, empty(t, c, 5), 4000)} {
		for size := -5; size < 4200; size++ {
			expectFits(t, r, size, m.fits(r, size))
		}
	}
}

// P14.1: as many frames of one byte as go into the greatest segment: more than a footer may have, but the sums alone count.
func TestFitsOfVeryMany(t *testing.T) {
	c := config(24, 1)
	r := empty(t, c, 0)
	for r.Fits(1) {
		r = take(t, r, 1)
	}
	if r.Count != 1238240 || r.Used != 15+r.Count || mostOf(r.Count)+r.Used > 1<<24 || mostOf(r.Count+1)+r.Used+1 <= 1<<24 {
		t.Errorf("the last room: %v", r)
	}
	expectLeft(t, r, 0)
}

// P14.1: of a config that may not be nothing fits, whatever the room says.
func TestNothingFitsByWrongConfigs(t *testing.T) {
	for _, c := range wrong() {
		for _, number := range []uint32{0, 1, c.Segments - 1} {
			for _, used := range []int{0, 15, 19, 4096, greatest} {
				for _, count := range []int{0, 1, 17, greatest} {
					expectLeft(t, pack.Room{Config: c, Number: number, Used: used, Count: count}, 0)
				}
			}
		}
	}
}

// P14.1: into a room that is full, or more than that, nothing fits.
func TestNothingFitsIntoFullRooms(t *testing.T) {
	for _, c := range []api.Config{config(12, 1), config(24, 65536)} {
		size := sizeOf(c)
		for _, used := range []int{size - 39, size - 38, size - 1, size, size + 1, 1 << 31, 1 << 32, greatest - 39, greatest - 1, greatest} {
			expectLeft(t, pack.Room{Config: c, Used: used}, 0)
		}
		for _, count := range []int{size/12 + 1, size, size + 1, 1 << 31, 1 << 32, greatest / 13, greatest / 12, greatest - 1, greatest} {
			expectLeft(t, pack.Room{Config: c, Used: 15, Count: count}, 0)
		}
	}
}

// R1: rooms that nobody asks are answered all the same, and no frame fits that is greater than a segment.
func TestAnyRoomIsAnswered(t *testing.T) {
	ends := []int{math.MinInt, math.MinInt + 1, math.MinInt / 12, -1 << 32, -1 << 31, -4096, -1, 0, 1, 4095, 4096, 1 << 24, 1 << 31, 1 << 32, greatest / 12, greatest - 1, greatest}
	for _, c := range append(right(), wrong()...) {
		for _, used := range ends {
			for _, count := range ends {
				r := pack.Room{Config: c, Number: c.Segments, Used: used, Count: count}
				left := r.Left()
				if left < 0 || left > 1<<24 || r.Fits(left+1) || left > 0 && !r.Fits(left) {
					t.Errorf("Left of %v: %d", r, left)
				}
				for _, size := range append(small(), huge()...) {
					if _, e := r.Take(size); r.Fits(size) || e != api.ErrFull {
						t.Errorf("Take of %d into %v: %d", size, r, e)
					}
				}
			}
		}
	}
}
