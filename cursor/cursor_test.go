package cursor_test

import (
	"bytes"
	"math"
	"testing"

	"fascicle/api"
	"fascicle/cursor"
)

// expectOutside asks a cursor outside of its reading for everything: it tells zero, and nothing happens.
func expectOutside(t *testing.T, what string, c *cursor.Cursor) {
	t.Helper()
	p := panicOf(func() {
		if c.Byte() != 0 || c.Four() != 0 || c.Eight() != 0 {
			t.Errorf("%s: it told a number", what)
		}
		for _, n := range []int{math.MinInt, -1, 0, 1, 5, math.MaxInt} {
			if len(c.Take(n)) != 0 {
				t.Errorf("%s: Take of %d told bytes", what, n)
			}
		}
		if c.Left() != 0 || c.At() != 0 {
			t.Errorf("%s: Left %d, At %d", what, c.Left(), c.At())
		}
		c.Fail(api.OK)
		c.Fail(api.ErrSum)
		c.End()
	})
	if p != nil {
		t.Errorf("%s: it panicked: %v", what, p)
	}
}

// P1.2: Byte, Four, Eight: the lowest byte first.
func TestNumbersLowestByteFirst(t *testing.T) {
	expectRun(t, "numbers", count(13), func(c *cursor.Cursor) {
		if x := c.Byte(); x != 1 {
			t.Errorf("Byte %d", x)
		}
		if x := c.Four(); x != 0x05040302 {
			t.Errorf("Four %x", x)
		}
		if x := c.Eight(); x != 0x0d0c0b0a09080706 {
			t.Errorf("Eight %x", x)
		}
	}, 13, api.OK)
	expectRun(t, "the greatest numbers", bytes.Repeat([]byte{255}, 13), func(c *cursor.Cursor) {
		if c.Byte() != math.MaxUint8 || c.Four() != math.MaxUint32 || c.Eight() != math.MaxUint64 {
			t.Error("a greatest number isn't")
		}
	}, 13, api.OK)
	for i := range 8 {
		b := make([]byte, 8)
		b[i] = 0x80
		expectRun(t, "one bit", b, func(c *cursor.Cursor) {
			if x := c.Eight(); x != 1<<(8*i+7) {
				t.Errorf("the bit of byte %d: %x", i, x)
			}
		}, 8, api.OK)
	}
}

// P1.2: Take: the next n bytes, and none of a number that isn't above 0.
func TestTake(t *testing.T) {
	expectRun(t, "piece by piece", count(9), func(c *cursor.Cursor) {
		for n, want := range [][]byte{{}, {1}, {2, 3}, {4, 5, 6}} {
			if got := c.Take(n); !bytes.Equal(got, want) {
				t.Errorf("Take of %d: %v", n, got)
			}
		}
		for _, n := range []int{0, -1, -6, math.MinInt} {
			if got := c.Take(n); len(got) != 0 || c.At() != 6 || c.Left() != 3 {
				t.Errorf("Take of %d: %v, At %d, Left %d", n, got, c.At(), c.Left())
			}
		}
		if got := c.Take(3); !bytes.Equal(got, []byte{7, 8, 9}) {
			t.Errorf("Take of all that are left: %v", got)
		}
		if got := c.Take(-1); len(got) != 0 {
			t.Errorf("Take below 0 at the end: %v", got)
		}
	}, 9, api.OK)
	expectRun(t, "of no bytes", nil, func(c *cursor.Cursor) { c.Take(0); c.Take(-1) }, 0, api.OK)
}

// P1.2: where there are fewer bytes than asked for, it stops, and none of them is read.
func TestFewerBytesLeftThanAskedFor(t *testing.T) {
	asks := []struct {
		name string
		size int
		ask  func(c *cursor.Cursor)
	}{
		{"Byte", 1, func(c *cursor.Cursor) { c.Byte() }},
		{"Four", 4, func(c *cursor.Cursor) { c.Four() }},
		{"Eight", 8, func(c *cursor.Cursor) { c.Eight() }},
		{"Take", 1, func(c *cursor.Cursor) { c.Take(1) }},
		{"Take", 20, func(c *cursor.Cursor) { c.Take(20) }},
	}
	for _, a := range asks {
		for ahead := range 4 {
			read := func(c *cursor.Cursor) {
				c.Take(ahead)
				a.ask(c)
			}
			for left := range a.size {
				expectRun(t, a.name+" of fewer", count(ahead+left), read, ahead, api.ErrShort)
			}
			expectRun(t, a.name+" of just enough", count(ahead+a.size), read, ahead+a.size, api.OK)
		}
	}
	for _, n := range []int{math.MaxInt, math.MaxInt - 1, math.MaxInt32} {
		expectRun(t, "Take of very many", count(9), func(c *cursor.Cursor) {
			c.Take(5)
			c.Take(n)
		}, 5, api.ErrShort)
	}
}

// P1.2: fewer bytes left than asked for doesn't run into the slice's spare room.
func TestSpareRoomIsNotRead(t *testing.T) {
	b := count(20)[:5]
	expectRun(t, "Eight", b, func(c *cursor.Cursor) { c.Eight() }, 0, api.ErrShort)
	expectRun(t, "Take", b, func(c *cursor.Cursor) { c.Byte(); c.Take(5) }, 1, api.ErrShort)
}

// P1.2: Left and At, behind each step.
func TestLeftAndAt(t *testing.T) {
	expectRun(t, "steps", count(20), func(c *cursor.Cursor) {
		at := 0
		check := func(n int) {
			at += n
			for range 2 { // asking moves nothing
				if c.At() != at || c.Left() != 20-at {
					t.Errorf("behind %d bytes: At %d, Left %d", at, c.At(), c.Left())
				}
			}
		}
		check(0)
		c.Byte()
		check(1)
		c.Four()
		check(4)
		c.Eight()
		check(8)
		c.Take(5)
		check(5)
		c.Take(0)
		check(0)
		c.Take(2)
		check(2)
	}, 20, api.OK)
}

// P1.2: Fail with OK: nothing happens.
func TestFailWithOK(t *testing.T) {
	behind := false
	expectRun(t, "OK", count(3), func(c *cursor.Cursor) {
		c.Byte()
		c.Fail(api.OK)
		c.Fail(0)
		if c.Byte() != 2 {
			t.Error("Fail with OK moved the cursor")
		}
		behind = true
	}, 2, api.OK)
	if !behind {
		t.Error("Fail with OK stopped the reading")
	}
	expectRun(t, "OK, then an error", count(3), func(c *cursor.Cursor) {
		c.Fail(api.OK)
		c.Fail(api.ErrOrder)
	}, 0, api.ErrOrder)
}

// P1.2: End stops just if bytes are left.
func TestEnd(t *testing.T) {
	for size := range 5 {
		for n := range size + 1 {
			behind := false
			e := api.ErrLong
			if n == size {
				e = api.OK
			}
			expectRun(t, "End", count(size), func(c *cursor.Cursor) {
				c.Take(n)
				c.End()
				c.End()
				behind = true
			}, n, e)
			if behind != (n == size) {
				t.Errorf("End behind %d of %d bytes: did it go on? %v", n, size, behind)
			}
		}
	}
}

// P1.2: a nil cursor, and one that no Run handed out.
func TestNoCursor(t *testing.T) {
	expectOutside(t, "nil", nil)
	expectOutside(t, "a zero value", &cursor.Cursor{})
	expectRun(t, "nil within a reading", count(3), func(c *cursor.Cursor) {
		expectOutside(t, "nil within a reading", nil)
		c.Byte()
	}, 1, api.OK)
}

// P1.2: a cursor whose reading is over, however it ended.
func TestCursorOutsideOfItsReading(t *testing.T) {
	var kept *cursor.Cursor
	ends := map[string]func(c *cursor.Cursor){
		"nothing read": func(c *cursor.Cursor) {},
		"a part read":  func(c *cursor.Cursor) { c.Take(7) },
		"all read":     func(c *cursor.Cursor) { c.Take(20) },
		"too short":    func(c *cursor.Cursor) { c.Byte(); c.Take(20) },
		"failed":       func(c *cursor.Cursor) { c.Four(); c.Fail(api.ErrForm) },
		"too long":     func(c *cursor.Cursor) { c.Eight(); c.End() },
		"other panic":  func(c *cursor.Cursor) { c.Eight(); panic("other") },
	}
	for what, end := range ends {
		panicOf(func() {
			cursor.Run(count(20), func(c *cursor.Cursor) {
				kept = c
				end(c)
			})
		})
		expectOutside(t, what, kept)
		expectRun(t, what+", in another reading", count(3), func(c *cursor.Cursor) {
			c.Byte()
			expectOutside(t, what+", in another reading", kept)
			c.Byte()
		}, 2, api.OK)
	}
}

// P1.2: a cursor of an inner reading that is over, within the outer one.
func TestInnerCursorOutsideOfItsReading(t *testing.T) {
	expectRun(t, "outer", count(4), func(outer *cursor.Cursor) {
		var kept *cursor.Cursor
		cursor.Run(count(3), func(inner *cursor.Cursor) { kept = inner })
		outer.Byte()
		expectOutside(t, "an inner cursor", kept)
		outer.Byte()
	}, 2, api.OK)
}
