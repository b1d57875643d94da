package cobs_test

import (
	"bytes"
	"math/rand/v2"
	"testing"

	"fascicle/api"
	"fascicle/cobs"
)

// expectError holds Unstuff against an error; beside it there are no bytes.
func expectError(t *testing.T, b []byte, want api.Errno) {
	t.Helper()
	if got, e := cobs.Unstuff(b); e != want || len(got) != 0 {
		t.Errorf("%v is unstuffed as %v, %d; it ought to be error %d", b, got, e, want)
	}
}

// expectTold holds Unstuff against what is to be told of any bytes, and what it answers, stuffed again, against the bytes.
func expectTold(t *testing.T, b []byte) {
	t.Helper()
	want, wantE := plain(b)
	got, e := cobs.Unstuff(b)
	if e != wantE || !bytes.Equal(got, want) {
		t.Fatalf("%v is unstuffed as %v, %d; it ought to be %v, %d", b, got, e, want, wantE)
	}
	if e == api.OK && !bytes.Equal(cobs.Stuff(got), b) {
		t.Fatalf("%v is unstuffed as %v, which is stuffed as %v", b, got, cobs.Stuff(got))
	}
}

// P5.2: of no bytes.
func TestUnstuffOfNothing(t *testing.T) {
	expectError(t, nil, api.ErrShort)
	expectError(t, []byte{}, api.ErrShort)
	expectError(t, []byte{1, 1}[:0], api.ErrShort)
}

// P5.2: a nought at each place, of what would be right without it, and behind it and ahead of it.
func TestUnstuffOfNoughts(t *testing.T) {
	expectError(t, []byte{0}, api.ErrForm)
	expectError(t, []byte{0, 0}, api.ErrForm)
	for _, right := range [][]byte{{1}, {1, 1}, {2, 7, 2, 8}, written(253), written(254), written(254, 1), written(3, 254, 0, 0), written(254, 254)} {
		for at := range right {
			b := bytes.Clone(right)
			b[at] = 0
			expectError(t, b, api.ErrForm)
		}
		for at := range len(right) + 1 {
			expectError(t, bytes.Join([][]byte{right[:at], right[at:]}, []byte{0}), api.ErrForm)
		}
	}
}

// P5.2: a nought is told ahead of a group that says more bytes than there are, wherever both stand.
func TestNoughtAheadOfAGroupThatIsShort(t *testing.T) {
	expectError(t, []byte{9, 0}, api.ErrForm)
	expectError(t, []byte{0, 9}, api.ErrForm)
	expectError(t, []byte{2, 0, 9}, api.ErrForm)
	expectError(t, []byte{2, 7, 9, 0}, api.ErrForm)
	expectError(t, []byte{255, 1, 2, 0}, api.ErrForm)
	expectError(t, []byte{255, 0, 1, 2}, api.ErrForm)
	expectError(t, append(written(254), 9, 0), api.ErrForm)
	for _, b := range [][]byte{written(254)[:254], append(written(9), 200, 7, 7, 7)} {
		for at := range b {
			b := bytes.Clone(b)
			b[at] = 0
			expectError(t, b, api.ErrForm)
		}
	}
}

// P5.2: a group that says more bytes than there are: the only one, the last one, one of 255; by one byte and by all of them.
func TestGroupThatIsShort(t *testing.T) {
	for _, size := range []int{1, 2, 3, 100, 252, 253, 254} {
		for _, ahead := range [][]byte{nil, {1}, {2, 7}, written(253), written(254), written(254, 254), written(254, 0, 3)} {
			group := written(size)
			for left := 1; left < len(group); left++ {
				expectError(t, append(bytes.Clone(ahead), group[:left]...), api.ErrShort)
			}
		}
	}
	expectError(t, []byte{2}, api.ErrShort)
	expectError(t, []byte{255}, api.ErrShort)
	expectError(t, append(written(254), 2), api.ErrShort)
	expectError(t, append(written(254), 255), api.ErrShort)
}

// P5.2, R4: what stands in the spare room isn't there.
func TestSpareRoomIsNotUnstuffed(t *testing.T) {
	for _, b := range [][]byte{written(1), written(5), written(253), written(254), written(254, 1), written(0, 254)} {
		expectError(t, b[:len(b)-1], api.ErrShort)
	}
	b := written(254, 0, 0)
	if got, e := cobs.Unstuff(b[:255]); e != api.OK || !bytes.Equal(got, count(254)) {
		t.Errorf("with spare room: %v, %d", got, e)
	}
}

// P5.2, P5.3: a last nought that makes a group of its own behind a group of 254 bytes isn't as Stuff has it.
func TestLastNoughtWithAGroupOfItsOwn(t *testing.T) {
	for _, groups := range [][]int{{254, 0}, {254, 254, 0}, {254, 254, 254, 0}, {0, 254, 0}, {3, 254, 0}, {253, 254, 0}, {254, 0, 254, 0}, {254, 1, 254, 0}, {0, 0, 254, 0}} {
		expectError(t, written(groups...), api.ErrForm)
	}
	expectError(t, append(append([]byte{255}, bytes.Repeat([]byte{1}, 254)...), 1), api.ErrForm)
	expectError(t, append(append([]byte{255}, bytes.Repeat([]byte{255}, 254)...), 1), api.ErrForm)
}

// P5.2: a last group 1 is right behind all other groups, and so is a group 1 behind 254 bytes that isn't the last one.
func TestLastGroupOfANought(t *testing.T) {
	expect(t, laid(0, 0), written(0, 0))
	for size := 1; size < 254; size++ {
		expect(t, laid(size, 0), written(size, 0))
		expect(t, laid(254+size, 0), written(254, size, 0))
		expect(t, laid(254, size), written(254, 0, size))
	}
	expect(t, laid(254, 0), written(254, 0, 0))
	expect(t, laid(254, 0, 0), written(254, 0, 0, 0))
}

// P5.2: a group says more bytes than there are, behind one that isn't as Stuff has it if it were the last: just ErrShort may be told.
func TestShortAheadOfTheForm(t *testing.T) {
	expectError(t, append(written(254, 0), 2), api.ErrShort)
	expectError(t, append(written(254, 0), 255, 1), api.ErrShort)
	expectError(t, append(written(254, 0, 254, 0), 3, 1), api.ErrShort)
}

// P5.2, P5.3: all bytes of one and two, and all of up to six that tell much.
func TestAllShortBytes(t *testing.T) {
	for i := range 1 << 16 {
		expectTold(t, []byte{byte(i)})
		expectTold(t, []byte{byte(i), byte(i >> 8)})
	}
	telling := []byte{0, 1, 2, 3, 4, 5, 255}
	var grow func(b []byte)
	grow = func(b []byte) {
		expectTold(t, b)
		for _, x := range telling {
			if len(b) < 6 {
				grow(append(bytes.Clone(b), x))
			}
		}
	}
	grow(nil)
}

// P5.2, P5.3: groups at their edges in each order, up to four of them.
func TestGroupsInEachOrder(t *testing.T) {
	sizes := []int{0, 1, 2, 253, 254}
	all := [][]int{{}}
	for at := 0; at < len(all); at++ {
		if len(all[at]) == 4 {
			continue
		}
		for _, size := range sizes {
			all = append(all, append(append([]int{}, all[at]...), size))
		}
	}
	for _, groups := range all {
		expectTold(t, written(groups...))
	}
}

// P5.2, P5.3: what is stuffed, cut off at each place, and with another byte at a place.
func TestStuffedBytesThatAreOthers(t *testing.T) {
	for _, runs := range [][]int{{3}, {0, 0}, {5, 0, 7}, {253}, {254}, {255}, {254, 0}, {3, 254, 0}, {508}, {509}} {
		b := cobs.Stuff(laid(runs...))
		for at := range b {
			expectTold(t, b[:at])
			for _, x := range []byte{0, 1, 2, 254, 255, b[at] - 1, b[at] + 1} {
				other := bytes.Clone(b)
				other[at] = x
				expectTold(t, other)
			}
		}
	}
	r := rand.New(rand.NewPCG(5, 2))
	for range 20000 {
		b := cobs.Stuff(some(r))
		for range r.IntN(3) {
			b[r.IntN(len(b))] = byte(r.IntN(256))
		}
		expectTold(t, b[:len(b)-r.IntN(2)])
	}
}

// P5.2, P5.3: any bytes.
func TestAnyBytesAreUnstuffed(t *testing.T) {
	r := rand.New(rand.NewPCG(5, 3))
	for range 20000 {
		expectTold(t, some(r))
	}
}
