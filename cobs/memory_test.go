package cobs_test

import (
	"bytes"
	"testing"

	"fascicle/api"
	"fascicle/cobs"
)

// kinds are runs by which bytes are of one group, of several, or of none but noughts.
var kinds = [][]int{{}, {1}, {7}, {0, 0}, {0, 0, 0}, {3, 4}, {0, 3}, {3, 0}, {253}, {254}, {255}, {254, 0}, {508}, {509, 0, 2}}

// P5.3, R4: what is handed in isn't changed, its spare room neither, and the spare room doesn't count.
func TestBytesAreNotChanged(t *testing.T) {
	behind := bytes.Repeat([]byte{2, 0, 255}, 200)
	for _, runs := range kinds {
		b := laid(runs...)
		want := stuffed(b)
		all := append(bytes.Clone(b), behind...)
		expect(t, all[:len(b)], want)
		if !bytes.Equal(all, append(bytes.Clone(b), behind...)) {
			t.Errorf("%v was changed to %v", b, all[:len(b)])
		}
		all = append(bytes.Clone(want), behind...)
		if got, e := cobs.Unstuff(all[:len(want)]); e != api.OK || !bytes.Equal(got, b) {
			t.Errorf("with others behind them %v are unstuffed as %v, %d", want, got, e)
		}
		if !bytes.Equal(all, append(bytes.Clone(want), behind...)) {
			t.Errorf("%v was changed to %v", want, all[:len(want)])
		}
	}
}

// P5.3: bytes that aren't stuffed ones aren't changed, either.
func TestWrongBytesAreNotChanged(t *testing.T) {
	for _, b := range [][]byte{{0}, {2, 7, 0, 1}, {2, 7, 9, 1}, written(254)[:200], written(254, 0), written(3, 254, 0)} {
		was := bytes.Clone(b)
		cobs.Unstuff(b)
		if !bytes.Equal(b, was) {
			t.Errorf("%v was changed to %v", was, b)
		}
	}
}

// change makes each byte of b another one, those in its spare room, too.
func change(b []byte) {
	b = b[:cap(b)]
	for i := range b {
		b[i] ^= 85
	}
}

// P5.3: an answer that is changed changes neither what was handed in nor the next answer.
func TestAnswersAreNewMemory(t *testing.T) {
	for _, runs := range kinds {
		b := laid(runs...)
		want, was := stuffed(b), bytes.Clone(b)
		first := cobs.Stuff(b)
		change(first)
		if !bytes.Equal(b, was) {
			t.Errorf("behind a change of what it was stuffed as %v is %v", was, b)
		}
		if second := cobs.Stuff(b); !bytes.Equal(second, want) {
			t.Errorf("behind a change of an answer %v is stuffed as %v", was, second)
		}
		given := bytes.Clone(want)
		back, _ := cobs.Unstuff(given)
		change(back)
		if !bytes.Equal(given, want) {
			t.Errorf("behind a change of what it was unstuffed as %v is %v", want, given)
		}
		if again, e := cobs.Unstuff(given); e != api.OK || !bytes.Equal(again, was) {
			t.Errorf("behind a change of an answer %v is unstuffed as %v, %d", want, again, e)
		}
	}
}

// P5.3: what is handed in isn't kept: a change of it changes no answer.
func TestBytesAreNotKept(t *testing.T) {
	for _, runs := range kinds {
		b := laid(runs...)
		was, want := bytes.Clone(b), stuffed(b)
		first := cobs.Stuff(b)
		change(b)
		if !bytes.Equal(first, want) {
			t.Errorf("behind a change of %v what it was stuffed as is %v", was, first)
		}
		expect(t, b, stuffed(b))
		given := bytes.Clone(want)
		back, _ := cobs.Unstuff(given)
		change(given)
		if !bytes.Equal(back, was) {
			t.Errorf("behind a change of %v what it was unstuffed as is %v", want, back)
		}
		expectTold(t, given)
	}
}

// P5.3: answers share nothing with each other.
func TestAnswersSideBySide(t *testing.T) {
	b := laid(3, 254, 0)
	first, second := cobs.Stuff(b), cobs.Stuff(b)
	change(first)
	if !bytes.Equal(second, stuffed(b)) {
		t.Errorf("behind a change of one answer of Stuff the other one is %v", second)
	}
	one, _ := cobs.Unstuff(second)
	other, _ := cobs.Unstuff(second)
	change(one)
	if !bytes.Equal(other, b) {
		t.Errorf("behind a change of one answer of Unstuff the other one is %v", other)
	}
}
