package footer_test

import (
	"math/rand/v2"
	"slices"
	"testing"

	"fascicle/api"
	"fascicle/footer"
	"fascicle/table"
)

// expectCheck holds Check against an error, and the model, too.
func expectCheck(t *testing.T, f footer.Footer, want api.Errno) {
	t.Helper()
	if e := footer.Check(f); e != want {
		t.Errorf("Check of %s: %d; it ought to be %d", show(f), e, want)
	}
	if e := checkOf(f); e != want {
		t.Errorf("the model tells %d of %s; it ought to be %d", e, show(f), want)
	}
}

// great gives so many entries that rise, the last one at n - 1.
func great(n int) []table.Entry {
	l := make([]table.Entry, n)
	for i := range l {
		l[i] = entry(uint64(i/3)<<40, uint32(i))
	}
	return l
}

// The chapter's constant.
func TestConstants(t *testing.T) {
	if footer.MaxEntries != 1048576 {
		t.Errorf("MaxEntries: %d", footer.MaxEntries)
	}
}

// P13.1: footers that may be.
func TestCheck(t *testing.T) {
	for _, f := range footers() {
		expectCheck(t, f, api.OK)
	}
}

// P13.1: footers that may not be, for each of the reasons.
func TestCheckOfFootersThatMayNotBe(t *testing.T) {
	for _, c := range wrong() {
		expectCheck(t, c.f, c.e)
	}
}

// P13.1: each entry stands below Used: just below it, at it, and above it; whichever entry it is.
func TestCheckOfPlaces(t *testing.T) {
	for _, n := range []int{1, 2, 16, 17, 40} {
		for i := range n {
			l := by(n, rules()[0])
			for _, used := range []uint32{3*uint32(n) + 9, 1 << 31, mostA} {
				l[i].At = used - 1
				expectCheck(t, of(used, l...), api.OK)
				l[i].At = used
				expectCheck(t, of(used, l...), api.ErrForm)
				if used < mostA {
					l[i].At = used + 1
					expectCheck(t, of(used, l...), api.ErrForm)
				}
			}
		}
	}
}

// P13.1: wherever two entries are the same, or stand the wrong way about.
func TestCheckOfOrder(t *testing.T) {
	for _, rule := range rules() {
		for _, n := range []int{2, 16, 17, 40} {
			for i := 1; i < n; i++ {
				l := by(n, rule)
				l[i-1], l[i] = l[i], l[i-1]
				expectCheck(t, of(1000, l...), api.ErrOrder)
				l[i-1] = l[i]
				expectCheck(t, of(1000, l...), api.ErrOrder)
			}
		}
	}
}

// P13.1: 2^20 entries may be, one more may not.
func TestCheckOfVeryMany(t *testing.T) {
	l := great(1<<20 + 1)
	expectCheck(t, of(1<<20, l[:1<<20]...), api.OK)
	expectCheck(t, of(1<<20, l[:1<<20-1]...), api.OK)
	expectCheck(t, of(1<<20+1, l...), api.ErrLong)
	expectCheck(t, of(mostA, l...), api.ErrLong)
	expectCheck(t, of(1<<20-1, l[:1<<20]...), api.ErrForm)
	l[1<<20-1] = l[1<<20-2]
	expectCheck(t, of(mostA, l[:1<<20]...), api.ErrOrder)
}

// P13.1, R2: of several faults the one that the chapter names first is told.
func TestCheckOfSeveralFaults(t *testing.T) {
	expectCheck(t, of(0), api.ErrForm)
	for _, f := range []footer.Footer{
		of(0, entry(1, 1), entry(1, 1)),
		of(1, entry(2, 2), entry(1, 1)),
		of(5, entry(9, 5), entry(8, 1)),
		of(5, entry(1, 1), entry(9, 6), entry(8, 4)),
		of(5, entry(1, 5), entry(2, 2), entry(2, 2)),
	} {
		expectCheck(t, f, api.ErrOrder) // they don't rise, and one stands at Used or above
	}
	l := great(1<<20 + 1)
	expectCheck(t, of(0, l...), api.ErrLong)
	expectCheck(t, of(1<<20, l...), api.ErrLong)
	l[0], l[1] = l[1], l[0]
	expectCheck(t, of(mostA, l...), api.ErrLong)
	expectCheck(t, of(0, l...), api.ErrLong)
	expectCheck(t, of(0, l[:1<<20]...), api.ErrOrder)
	slices.Reverse(l)
	expectCheck(t, of(7, l...), api.ErrLong)
}

// P13.1: all rows of three entries of few Hashes and places, by each Used.
func TestCheckOfAllSmallFooters(t *testing.T) {
	var few []table.Entry
	for _, hash := range []uint64{0, 1, most} {
		for at := range uint32(3) {
			few = append(few, entry(hash, at))
		}
	}
	for used := range uint32(5) {
		for _, a := range few {
			expectCheck(t, of(used, a), checkOf(of(used, a)))
			for _, b := range few {
				expectCheck(t, of(used, a, b), checkOf(of(used, a, b)))
				for _, c := range few {
					expectCheck(t, of(used, a, b, c), checkOf(of(used, a, b, c)))
				}
			}
		}
	}
}

// P13.1: any footers.
func TestCheckOfAnyFooters(t *testing.T) {
	r := rand.New(rand.NewPCG(13, 1))
	told := map[api.Errno]int{}
	for range 5000 {
		f := some(r, 50)
		if r.IntN(3) == 0 {
			f.Used = uint32(r.IntN(510))
		}
		if r.IntN(4) == 0 {
			i, j := r.IntN(len(f.Table)), r.IntN(len(f.Table))
			f.Table[i], f.Table[j] = f.Table[j], f.Table[i]
		}
		want := checkOf(f)
		told[want]++
		expectCheck(t, f, want)
	}
	for _, e := range []api.Errno{api.OK, api.ErrOrder, api.ErrForm} {
		if told[e] < 100 {
			t.Errorf("too few footers of error %d: %d", e, told[e])
		}
	}
}
