package elder_test

import (
	"strings"
	"testing"

	"fascicle/api"
	"fascicle/elder"
)

// checked is a pair, and whether it may be.
type checked struct {
	pair elder.Pair
	e    api.Errno
}

// edges are pairs with keys and values of lengths at their bounds, all with all.
func edges() []checked {
	told := [4][4]api.Errno{ // by key, then by value
		{api.ErrForm, api.ErrForm, api.ErrForm, api.ErrForm},
		{api.OK, api.OK, api.OK, api.ErrLong},
		{api.OK, api.OK, api.OK, api.ErrLong},
		{api.ErrLong, api.ErrLong, api.ErrLong, api.ErrLong},
	}
	var l []checked
	for i, key := range []string{"", "k", long(4096), long(4097)} {
		for j, value := range []string{"", "v", long(1 << 20), long(1<<20 + 1)} {
			l = append(l, checked{pair(key, value), told[i][j]})
		}
	}
	return l
}

// P10.1: Check of keys and values at their bounds, and of pairs with two faults: the first one in the chapter's order.
func TestCheck(t *testing.T) {
	for _, c := range edges() {
		if e := elder.Check(c.pair); e != c.e {
			t.Errorf("%s: %d; it ought to be %d", tell(c.pair), e, c.e)
		}
	}
	for _, p := range samples() {
		if e := elder.Check(p); e != api.OK {
			t.Errorf("%s: %d", tell(p), e)
		}
	}
}

// P10.1: a text's length is how many bytes it has, whatever they are.
func TestCheckCountsBytes(t *testing.T) {
	two, three := "\u00e9", "\u4e16" // runes of so many bytes
	for _, c := range []checked{
		{pair(strings.Repeat(two, 2048), ""), api.OK},
		{pair(strings.Repeat(two, 2048)+"k", ""), api.ErrLong},
		{pair(strings.Repeat(three, 1365)+"k", ""), api.OK},
		{pair(strings.Repeat(three, 1366), ""), api.ErrLong},
		{pair("k", strings.Repeat(two, 1<<19)), api.OK},
		{pair("k", strings.Repeat(two, 1<<19)+"v"), api.ErrLong},
		{pair("\x00", "\x00\xff\x80"), api.OK},
		{pair(strings.Repeat("\x00", 4097), ""), api.ErrLong},
		{pair("\xff\xfe", strings.Repeat("\x80", 1<<20)), api.OK},
		{pair("", "\x00"), api.ErrForm},
		{elder.Pair{}, api.ErrForm},
	} {
		if e := elder.Check(c.pair); e != c.e {
			t.Errorf("%s: %d; it ought to be %d", tell(c.pair), e, c.e)
		}
	}
}

// P10.1: every length of a key next to its bounds, and all between them; lengths of a value far above its bound.
func TestCheckOfEachLength(t *testing.T) {
	for n := 1; n <= 4200; n++ {
		want := api.OK
		if n > 4096 {
			want = api.ErrLong
		}
		if e := elder.Check(pair(long(n), "v")); e != want {
			t.Fatalf("a key of %d bytes: %d; it ought to be %d", n, e, want)
		}
	}
	for _, n := range []int{1<<20 + 2, 1 << 21, 1<<24 + 1} {
		if e := elder.Check(pair("k", long(n))); e != api.ErrLong {
			t.Errorf("a value of %d bytes: %d", n, e)
		}
		if e := elder.Check(pair(long(n), "v")); e != api.ErrLong {
			t.Errorf("a key of %d bytes: %d", n, e)
		}
	}
}
