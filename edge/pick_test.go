package edge_test

import (
	"math"
	"math/rand/v2"
	"slices"
	"testing"

	"fascicle/edge"
)

// nan gives a NaN whose bits aren't those that are written.
func nan() float64 { return math.Float64frombits(0xfff0000000001234) }

// P6.2: Clamp at x below, within, behind and at the bounds, with NaNs, infinities, -0 and 0, and with high ahead of low.
func TestClamp(t *testing.T) {
	inf := math.Inf(1)
	for _, c := range []struct{ x, low, high, want float64 }{
		{0, 1, 3, 1},
		{2, 1, 3, 2},
		{5, 1, 3, 3},
		{1, 1, 3, 1},
		{3, 1, 3, 3},
		{2, 2, 2, 2},
		{1, 2, 2, 2},
		{3, 2, 2, 2},
		{-5, -3, -1, -3},
		{-2, -3, -1, -2},
		{0, -3, -1, -1},
		{-inf, 1, 3, 1},
		{inf, 1, 3, 3},
		{inf, 1, inf, inf},
		{-inf, -inf, 3, -inf},
		{7, -inf, inf, 7},
		{7, inf, inf, inf},
		{7, -inf, -inf, -inf},
		{nan(), 1, 3, 3}, // NaN stands behind all
		{nan(), 1, inf, inf},
		{2, nan(), 3, nan()}, // high stands ahead of low
		{2, nan(), nan(), nan()},
		{inf, nan(), nan(), nan()},
		{0, 1, nan(), 1},
		{2, 1, nan(), 2},
		{inf, 1, nan(), inf},
		{nan(), 1, nan(), nan()},
		{nan(), nan(), 3, nan()},
		{nan(), nan(), nan(), nan()},
		{0, 3, 1, 3}, // high stands ahead of low
		{1, 3, 1, 3},
		{2, 3, 1, 3},
		{3, 3, 1, 3},
		{5, 3, 1, 3},
		{nan(), 3, 1, 3},
		{-inf, 3, 1, 3},
		{inf, 3, 1, 3},
		{0, inf, -inf, inf},
	} {
		if got := edge.Clamp(c.x, c.low, c.high); !alike(got, c.want) {
			t.Errorf("of %s within %s, %s: %s; it ought to be %s", tell(c.x), tell(c.low), tell(c.high), tell(got), tell(c.want))
		}
	}
}

// P6.2: as bounds, -0 stands ahead of 0.
func TestClampAtNoughts(t *testing.T) {
	below := -math.SmallestNonzeroFloat64
	for _, c := range []struct{ x, low, high, want float64 }{
		{minus(), 0, 1, 0},
		{0, 0, 1, 0},
		{0, -1, minus(), minus()},
		{minus(), -1, minus(), minus()},
		{below, minus(), 0, minus()},
		{minus(), minus(), 0, minus()},
		{0, minus(), 0, 0},
		{1, minus(), 0, 0},
		{minus(), 0, 0, 0},
		{0, minus(), minus(), minus()},
		{-1, 0, minus(), 0}, // high stands ahead of low
		{minus(), 0, minus(), 0},
		{0, 0, minus(), 0},
		{1, 0, minus(), 0},
		{nan(), 0, minus(), 0},
	} {
		if got := edge.Clamp(c.x, c.low, c.high); !alike(got, c.want) {
			t.Errorf("of %s within %s, %s: %s; it ought to be %s", tell(c.x), tell(c.low), tell(c.high), tell(got), tell(c.want))
		}
	}
}

// P6.2: Clamp of any three, by the order kind by kind; a NaN only where x or low is one.
func TestClampOfAny(t *testing.T) {
	r := rand.New(rand.NewPCG(5, 6))
	for range 100000 {
		x, low, high := some(r), some(r), some(r)
		want := x
		if order(x, high) > 0 {
			want = high
		}
		if order(x, low) < 0 || order(high, low) < 0 {
			want = low
		}
		if got := edge.Clamp(x, low, high); !alike(got, want) {
			t.Fatalf("of %s within %s, %s: %s; it ought to be %s", tell(x), tell(low), tell(high), tell(got), tell(want))
		}
	}
}

// P6.2: Most of no row, of one number, and of rows at the edges, whichever way round they stand.
func TestMost(t *testing.T) {
	inf := math.Inf(1)
	for _, c := range []struct {
		l    []float64
		want float64
	}{
		{nil, nan()},
		{[]float64{}, nan()},
		{[]float64{7}, 7},
		{[]float64{-7}, -7},
		{[]float64{minus()}, minus()},
		{[]float64{0}, 0},
		{[]float64{-inf}, -inf},
		{[]float64{inf}, inf},
		{[]float64{nan()}, nan()},
		{[]float64{1, 2}, 2},
		{[]float64{-1, -2, -3}, -1},
		{[]float64{3, 3, 3}, 3},
		{[]float64{-5, minus(), -1}, minus()},
		{[]float64{minus(), 0}, 0},
		{[]float64{minus(), minus()}, minus()},
		{[]float64{minus(), 0, -5}, 0},
		{[]float64{-inf, -math.MaxFloat64}, -math.MaxFloat64},
		{[]float64{-inf, -inf}, -inf},
		{[]float64{math.MaxFloat64, inf, 1}, inf},
		{[]float64{-inf, inf}, inf},
		{[]float64{1, math.NaN(), 2}, nan()},
		{[]float64{nan(), inf, -inf}, nan()},
		{[]float64{nan(), math.NaN()}, nan()},
	} {
		if got := edge.Most(c.l); !alike(got, c.want) {
			t.Errorf("of %v: %s; it ought to be %s", c.l, tell(got), tell(c.want))
		}
		back := slices.Clone(c.l)
		slices.Reverse(back)
		if got := edge.Most(back); !alike(got, c.want) {
			t.Errorf("of %v: %s; it ought to be %s", back, tell(got), tell(c.want))
		}
	}
}

// P6.2: the one furthest behind is found at each place of a row.
func TestMostAtEachPlace(t *testing.T) {
	for size := 1; size < 40; size++ {
		for at := range size {
			l := make([]float64, size)
			for i := range l {
				l[i] = -float64(i % 7)
			}
			l[at] = 0.5
			if got := edge.Most(l); got != 0.5 {
				t.Errorf("of %d with 0.5 at %d: %s", size, at, tell(got))
			}
		}
	}
}

// P6.2, R4: a row that is handed in isn't changed, its spare room neither, and the spare room doesn't count; nor is it kept.
func TestRowIsNotChanged(t *testing.T) {
	r := rand.New(rand.NewPCG(6, 6))
	for range 500 {
		all := make([]float64, r.IntN(30)+3)
		for i := range all {
			all[i] = some(r)
		}
		was := slices.Clone(all)
		l := all[:len(all)-2]
		want := l[0]
		for _, x := range l {
			if order(x, want) > 0 {
				want = x
			}
		}
		if got := edge.Most(l); !alike(got, want) {
			t.Fatalf("of %v: %s; it ought to be %s", l, tell(got), tell(want))
		}
		for i, x := range all {
			if math.Float64bits(x) != math.Float64bits(was[i]) {
				t.Fatalf("%v was changed to %v", was, all)
			}
		}
		for i := range l {
			l[i] = -3
		}
		if got := edge.Most(l); got != -3 {
			t.Fatalf("behind a change of the row: %s", tell(got))
		}
	}
}
