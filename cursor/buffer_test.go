package cursor_test

import (
	"bytes"
	"math"
	"testing"

	"fascicle/cursor"
)

// expectBytes holds a Buffer's Len and Bytes against what was written.
func expectBytes(t *testing.T, what string, w *cursor.Buffer, want []byte) {
	t.Helper()
	if w.Len() != len(want) {
		t.Errorf("%s: Len %d; it ought to be %d", what, w.Len(), len(want))
	}
	if got := w.Bytes(); !bytes.Equal(got, want) {
		t.Errorf("%s: Bytes %v; it ought to be %v", what, got, want)
	}
}

// P1.3: a Buffer is at first without bytes.
func TestBufferAtFirst(t *testing.T) {
	var w cursor.Buffer
	expectBytes(t, "a zero value", &w, nil)
	expectBytes(t, "a new one", new(cursor.Buffer), nil)
}

// P1.3: each is written behind the others, the lowest byte first.
func TestBufferWritesBehindTheOthers(t *testing.T) {
	var w cursor.Buffer
	var want []byte
	step := func(what string, b ...byte) {
		t.Helper()
		want = append(want, b...)
		expectBytes(t, what, &w, want)
	}
	w.Byte(0)
	step("the least byte", 0)
	w.Byte(math.MaxUint8)
	step("the greatest byte", 255)
	w.Four(0x04030201)
	step("Four", 1, 2, 3, 4)
	w.Eight(0x0807060504030201)
	step("Eight", 1, 2, 3, 4, 5, 6, 7, 8)
	w.Raw([]byte("ab"))
	step("Raw", 'a', 'b')
	w.Raw(nil)
	step("Raw of nil")
	w.Raw([]byte{})
	step("Raw of no bytes")
	w.Four(0)
	step("Four of 0", 0, 0, 0, 0)
	w.Four(math.MaxUint32)
	step("Four of the greatest", 255, 255, 255, 255)
	w.Eight(0)
	step("Eight of 0", 0, 0, 0, 0, 0, 0, 0, 0)
	w.Eight(math.MaxUint64)
	step("Eight of the greatest", 255, 255, 255, 255, 255, 255, 255, 255)
	w.Eight(1 << 63)
	step("Eight of the highest bit", 0, 0, 0, 0, 0, 0, 0, 128)
	w.Byte(9)
	step("Byte behind all", 9)
}

// P1.3: each answers the Buffer itself.
func TestBufferAnswersItself(t *testing.T) {
	var w cursor.Buffer
	for what, got := range map[string]*cursor.Buffer{
		"Byte":       w.Byte(1),
		"Four":       w.Four(2),
		"Eight":      w.Eight(3),
		"Raw":        w.Raw([]byte{4}),
		"Raw of nil": w.Raw(nil),
	} {
		if got != &w {
			t.Errorf("%s answered another Buffer", what)
		}
	}
	if w.Byte(1).Four(2).Eight(3).Raw([]byte{4}) != &w || w.Len() != 28 {
		t.Errorf("one behind the other: Len %d", w.Len())
	}
}

// P1.3: a Buffer grows as far as it is told to, and two of them share nothing.
func TestBufferGrows(t *testing.T) {
	var w, other cursor.Buffer
	var want []byte
	for i := range 5000 {
		w.Byte(byte(i)).Four(uint32(i))
		want = append(want, byte(i), byte(i), byte(i>>8), 0, 0)
		other.Byte(7)
	}
	expectBytes(t, "many", &w, want)
	expectBytes(t, "the other one", &other, bytes.Repeat([]byte{7}, 5000))
}
