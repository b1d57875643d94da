package cobs_test

import (
	"bytes"
	"math/rand/v2"
	"testing"

	"fascicle/api"
	"fascicle/cobs"
)

// expect holds Stuff, Size and Unstuff against bytes and what they are when stuffed.
func expect(t *testing.T, b, want []byte) {
	t.Helper()
	if got := cobs.Stuff(b); !bytes.Equal(got, want) {
		t.Errorf("%v is stuffed as %v; it ought to be %v", b, got, want)
	}
	if got := cobs.Size(b); got != len(want) {
		t.Errorf("Size of %v: %d; it ought to be %d", b, got, len(want))
	}
	if most := cobs.Most(len(b)); len(want) > most {
		t.Errorf("%d bytes may have %d, stuffed; but Most is %d", len(b), len(want), most)
	}
	if got, e := cobs.Unstuff(want); e != api.OK || !bytes.Equal(got, b) {
		t.Errorf("%v is unstuffed as %v, %d; it ought to be %v", want, got, e, b)
	}
}

// P5.1, P5.2: the chapter's examples, and others as short.
func TestExamples(t *testing.T) {
	expect(t, nil, []byte{1})
	expect(t, []byte{}, []byte{1})
	expect(t, []byte{0}, []byte{1, 1})
	expect(t, []byte{7, 0, 8}, []byte{2, 7, 2, 8})
	expect(t, []byte{7}, []byte{2, 7})
	expect(t, []byte{255}, []byte{2, 255})
	expect(t, []byte{1, 1}, []byte{3, 1, 1})
	expect(t, []byte{0, 7}, []byte{1, 2, 7})
	expect(t, []byte{7, 0}, []byte{2, 7, 1})
	expect(t, []byte{7, 0, 0, 8}, []byte{2, 7, 1, 2, 8})
}

// P5.1, P5.2: groups at their edges, with noughts at each side of them and within.
func TestGroupsAtTheirEdges(t *testing.T) {
	for _, c := range []struct{ runs, groups []int }{
		{[]int{253}, []int{253}}, // alone
		{[]int{254}, []int{254}},
		{[]int{255}, []int{254, 1}},
		{[]int{507}, []int{254, 253}},
		{[]int{508}, []int{254, 254}},
		{[]int{509}, []int{254, 254, 1}},
		{[]int{762}, []int{254, 254, 254}},
		{[]int{763}, []int{254, 254, 254, 1}},

		{[]int{0, 253}, []int{0, 253}}, // a nought ahead
		{[]int{0, 254}, []int{0, 254}},
		{[]int{0, 255}, []int{0, 254, 1}},
		{[]int{0, 508}, []int{0, 254, 254}},
		{[]int{0, 509}, []int{0, 254, 254, 1}},
		{[]int{0, 0, 254}, []int{0, 0, 254}},

		{[]int{126, 127}, []int{126, 127}}, // in the midst
		{[]int{127, 127}, []int{127, 127}},
		{[]int{127, 128}, []int{127, 128}},
		{[]int{1, 252}, []int{1, 252}},
		{[]int{1, 253}, []int{1, 253}},
		{[]int{1, 254}, []int{1, 254}},
		{[]int{1, 255}, []int{1, 254, 1}},
		{[]int{252, 1}, []int{252, 1}},
		{[]int{253, 1}, []int{253, 1}},
		{[]int{254, 1}, []int{254, 0, 1}},
		{[]int{255, 1}, []int{254, 1, 1}},
		{[]int{253, 255}, []int{253, 254, 1}},
		{[]int{254, 254}, []int{254, 0, 254}},
		{[]int{255, 254}, []int{254, 1, 254}},
		{[]int{254, 0, 254}, []int{254, 0, 0, 254}},
		{[]int{253, 254, 255}, []int{253, 254, 0, 254, 1}},
		{[]int{508, 508}, []int{254, 254, 0, 254, 254}},
		{[]int{509, 509}, []int{254, 254, 1, 254, 254, 1}},

		{[]int{253, 0}, []int{253, 0}}, // behind
		{[]int{254, 0}, []int{254, 0, 0}},
		{[]int{255, 0}, []int{254, 1, 0}},
		{[]int{508, 0}, []int{254, 254, 0, 0}},
		{[]int{509, 0}, []int{254, 254, 1, 0}},

		{[]int{253, 0, 0}, []int{253, 0, 0}}, // two noughts behind
		{[]int{254, 0, 0}, []int{254, 0, 0, 0}},
		{[]int{255, 0, 0}, []int{254, 1, 0, 0}},
		{[]int{508, 0, 0}, []int{254, 254, 0, 0, 0}},
		{[]int{509, 0, 0}, []int{254, 254, 1, 0, 0}},

		{[]int{0, 254, 0}, []int{0, 254, 0, 0}}, // at both sides
		{[]int{0, 253, 0}, []int{0, 253, 0}},
		{[]int{0, 508, 0}, []int{0, 254, 254, 0, 0}},
	} {
		expect(t, laid(c.runs...), written(c.groups...))
	}
}

// P5.1, P5.2: a group of 254 bytes just ahead of the last nought makes no group of its own, whatever stands ahead of it.
func TestFullGroupAheadOfTheLastNought(t *testing.T) {
	for ahead := range 600 {
		runs := []int{ahead, 254}
		got := cobs.Stuff(laid(runs...))
		if end := written(ahead, 254)[ahead+1:]; !bytes.HasSuffix(got, end) {
			t.Errorf("behind a run of %d: %v doesn't end with a group of 254", ahead, got)
		}
		expect(t, laid(runs...), stuffed(laid(runs...)))
	}
}

// P5.1, P5.2: noughts alone are as many groups, and one more.
func TestNoughtsAlone(t *testing.T) {
	for _, size := range []int{1, 2, 3, 252, 253, 254, 255, 256, 508, 509, 1000} {
		expect(t, make([]byte, size), bytes.Repeat([]byte{1}, size+1))
	}
}

// P5.1, P5.2: bytes without a nought, of each length: groups of 254, and one of those that are left over.
func TestEachLength(t *testing.T) {
	for size := range 1100 {
		groups := []int{}
		for left := size; left > 0 || len(groups) == 0; left -= 254 {
			groups = append(groups, min(left, 254))
		}
		expect(t, laid(size), written(groups...))
	}
}

// P5.1, P5.3: a nought at each place of bytes that have no other one.
func TestNoughtAtEachPlace(t *testing.T) {
	for _, size := range []int{1, 2, 253, 254, 255, 256, 508, 509, 510} {
		for at := range size {
			b := count(size)
			b[at] = 0
			expect(t, b, stuffed(b))
		}
	}
}

// P5.1, P5.3: any bytes; what is stuffed has no nought, and isn't empty.
func TestAnyBytesAreStuffed(t *testing.T) {
	r := rand.New(rand.NewPCG(5, 1))
	for range 20000 {
		b := some(r)
		expect(t, b, stuffed(b))
		if got := cobs.Stuff(b); len(got) == 0 || bytes.IndexByte(got, 0) >= 0 {
			t.Fatalf("%v is stuffed as %v", b, got)
		}
	}
}

// P5.1, P5.2: as many bytes as a value may have, without a nought, and with many.
func TestManyBytes(t *testing.T) {
	b := count(api.MaxValue)
	expect(t, b, stuffed(b))
	for i := range b {
		if i*i%7 == 1 {
			b[i] = 0
		}
	}
	expect(t, b, stuffed(b))
}
