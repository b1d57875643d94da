package varint_test

import (
	"bytes"
	"testing"

	"fascicle/cursor"
	"fascicle/varint"
)

// P2.3: bytes that are read aren't changed, their spare room neither, whatever they are.
func TestReadingDoesNotChangeTheBytes(t *testing.T) {
	for _, s := range []string{"\x03abcdef", "\xac\x02abcdef", "\x80\x00abc", "\x80", "\xff\xff\xff\xff\xff\xff\xff\xff\xff\x02ab", ""} {
		for spare := range len(s) + 1 {
			all := []byte(s)
			b := all[:len(all)-spare]
			varint.Read(b)
			cursor.Run(b, func(c *cursor.Cursor) { varint.Get(c) })
			cursor.Run(b, func(c *cursor.Cursor) { varint.GetText(c, 0, 9) })
			cursor.Run(b, func(c *cursor.Cursor) { varint.GetText(c, 9, 0) })
			if string(all) != s {
				t.Errorf("%q was changed to %q", s, all)
			}
		}
	}
}

// P2.3: a text shares nothing with the bytes that it was read of.
func TestGetTextAnswersNewMemory(t *testing.T) {
	b := []byte("\x03abc\x03def")
	var first, second string
	cursor.Run(b, func(c *cursor.Cursor) {
		first = varint.GetText(c, 0, 9)
		second = varint.GetText(c, 0, 9)
	})
	for i := range b {
		b[i] = 200
	}
	if first != "abc" || second != "def" {
		t.Errorf("behind a change of the bytes: %q, %q", first, second)
	}
}

// P2.3: of bytes that were changed Read tells what they are now.
func TestReadDoesNotKeepTheBytes(t *testing.T) {
	b := []byte{172, 2}
	if x, n, _ := varint.Read(b); x != 300 || n != 2 {
		t.Errorf("at first: %d, %d", x, n)
	}
	b[0] = 5
	if x, n, _ := varint.Read(b); x != 5 || n != 1 {
		t.Errorf("behind a change: %d, %d", x, n)
	}
}

// P2.3: what a Buffer answered isn't touched by what is written behind it.
func TestPutLeavesEarlierAnswers(t *testing.T) {
	var w cursor.Buffer
	varint.PutText(&w, "ab")
	first := w.Bytes()
	varint.Put(&w, 300)
	varint.PutText(&w, "cd")
	for i := range first {
		first[i] = 200
	}
	if got, want := w.Bytes(), []byte{2, 'a', 'b', 172, 2, 2, 'c', 'd'}; !bytes.Equal(got, want) {
		t.Errorf("behind a change of an answer: %v; it ought to be %v", got, want)
	}
	if !bytes.Equal(first, []byte{200, 200, 200}) {
		t.Errorf("a further number is in an answer: %v", first)
	}
}
