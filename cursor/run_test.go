package cursor_test

import (
	"errors"
	"math"
	"testing"

	"fascicle/api"
	"fascicle/cursor"
)

// count gives the bytes 1, 2, .. n.
func count(n int) []byte {
	b := make([]byte, n)
	for i := range b {
		b[i] = byte(i + 1)
	}
	return b
}

// expectRun does a reading and holds what Run tells against what it ought to.
func expectRun(t *testing.T, what string, b []byte, read func(c *cursor.Cursor), at int, e api.Errno) {
	t.Helper()
	gotAt, gotE := cursor.Run(b, read)
	if gotAt != at || gotE != e {
		t.Errorf("%s: Run told %d, %d; it ought to be %d, %d", what, gotAt, gotE, at, e)
	}
}

// panicOf does a call and gives what it panics with, nil if it doesn't.
func panicOf(call func()) (p any) {
	defer func() { p = recover() }()
	call()
	return nil
}

// P1.1: how many bytes were read, and OK.
func TestRunTellsHowManyBytesWereRead(t *testing.T) {
	for size := range 20 {
		for n := range size + 1 {
			expectRun(t, "a part of the bytes", count(size), func(c *cursor.Cursor) { c.Take(n) }, n, api.OK)
		}
	}
	expectRun(t, "nothing asked for", count(3), func(c *cursor.Cursor) {}, 0, api.OK)
	expectRun(t, "all kinds", count(15), func(c *cursor.Cursor) {
		c.Byte()
		c.Four()
		c.Eight()
		c.Take(1)
	}, 14, api.OK)
}

// P1.1: the reading is done once, with a cursor at the beginning, whatever the bytes are.
func TestRunDoesTheReadingOnce(t *testing.T) {
	for what, b := range map[string][]byte{"nil": nil, "empty": {}, "one": {9}, "many": count(200)} {
		times := 0
		expectRun(t, what, b, func(c *cursor.Cursor) {
			times++
			if c.At() != 0 || c.Left() != len(b) {
				t.Errorf("%s: the reading begins at %d with %d left", what, c.At(), c.Left())
			}
		}, 0, api.OK)
		if times != 1 {
			t.Errorf("%s: the reading was done %d times", what, times)
		}
	}
}

// P1.1: of a stop, why, and how many bytes were read ahead of it.
func TestRunTellsWhyTheReadingStopped(t *testing.T) {
	expectRun(t, "the chapter's example", count(3), func(c *cursor.Cursor) {
		c.Byte()
		c.Four()
	}, 1, api.ErrShort)
	expectRun(t, "bytes left", count(3), func(c *cursor.Cursor) {
		c.Take(2)
		c.End()
	}, 2, api.ErrLong)
	for e := api.ErrArg; e <= api.ErrDown; e++ {
		expectRun(t, "Fail", count(7), func(c *cursor.Cursor) {
			c.Four()
			c.Fail(e)
		}, 4, e)
	}
	for _, e := range []api.Errno{-1, 12, math.MinInt, math.MaxInt} {
		expectRun(t, "Fail with an error without a name", nil, func(c *cursor.Cursor) { c.Fail(e) }, 0, e)
	}
}

// P1.1: nothing that stands behind a stop is done, however deep in calls it stops.
func TestNothingBehindAStopIsDone(t *testing.T) {
	stops := map[string]func(c *cursor.Cursor){
		"Byte":  func(c *cursor.Cursor) { c.Take(3); c.Byte() },
		"Four":  func(c *cursor.Cursor) { c.Four() },
		"Eight": func(c *cursor.Cursor) { c.Eight() },
		"Take":  func(c *cursor.Cursor) { c.Take(4) },
		"Fail":  func(c *cursor.Cursor) { c.Fail(api.ErrForm) },
		"End":   func(c *cursor.Cursor) { c.End() },
	}
	for name, stop := range stops {
		deferred := false
		_, e := cursor.Run(count(3), func(c *cursor.Cursor) {
			defer func() { deferred = true }()
			func() {
				stop(c)
				t.Errorf("%s: the call around it went on", name)
			}()
			t.Errorf("%s: the reading went on", name)
		})
		if e == api.OK {
			t.Errorf("%s: it didn't stop", name)
		}
		if !deferred {
			t.Errorf("%s: what the reading deferred wasn't done", name)
		}
	}
}

// P1.1: a nil reading.
func TestNilReading(t *testing.T) {
	expectRun(t, "nil of nil", nil, nil, 0, api.OK)
	expectRun(t, "nil of bytes", count(5), nil, 0, api.OK)
}

// P1.1: another panic than a cursor's goes on as it is, an error number's and the language's own, too.
func TestAnotherPanicGoesOn(t *testing.T) {
	for _, p := range []any{"other", 7, api.ErrShort, api.OK, errors.New("wrong"), struct{ x int }{1}} {
		got := panicOf(func() {
			cursor.Run(count(3), func(c *cursor.Cursor) {
				c.Byte()
				panic(p)
			})
			t.Errorf("panic %v: Run answered", p)
		})
		if got != p {
			t.Errorf("panic %v went on as %v", p, got)
		}
	}
	var none []int
	got := panicOf(func() {
		cursor.Run(nil, func(c *cursor.Cursor) { none[c.Left()]++ })
	})
	if _, ok := got.(error); !ok {
		t.Errorf("an index outside of its slice went on as %v", got)
	}
}

// P1.1: another panic goes on through readings within readings.
func TestAnotherPanicGoesOnThroughAll(t *testing.T) {
	got := panicOf(func() {
		cursor.Run(count(3), func(outer *cursor.Cursor) {
			cursor.Run(count(2), func(inner *cursor.Cursor) { panic("other") })
			t.Error("the outer reading went on")
		})
	})
	if got != "other" {
		t.Errorf("it went on as %v", got)
	}
}

// P1.1: a reading within a reading has bytes, a place and an end of its own.
func TestReadingWithinAReading(t *testing.T) {
	b := count(6)
	expectRun(t, "outer", b, func(outer *cursor.Cursor) {
		outer.Byte()
		expectRun(t, "inner", b, func(inner *cursor.Cursor) {
			if inner.Byte() != 1 || outer.Byte() != 2 || inner.Byte() != 2 || outer.At() != 2 || inner.At() != 2 {
				t.Error("one cursor moved the other one")
			}
		}, 2, api.OK)
		expectRun(t, "inner, stopped", b[:2], func(inner *cursor.Cursor) {
			inner.Byte()
			inner.Four()
		}, 1, api.ErrShort)
		expectRun(t, "inner, failed", nil, func(inner *cursor.Cursor) { inner.Fail(api.ErrSum) }, 0, api.ErrSum)
		if outer.Byte() != 3 {
			t.Error("an inner stop moved the outer cursor")
		}
	}, 3, api.OK)
}

// P1.1, P1.2: an outer cursor stops its own reading, and so all that is within it.
func TestOuterCursorStopsTheOuterReading(t *testing.T) {
	stops := map[api.Errno]func(c *cursor.Cursor){
		api.ErrShort: func(c *cursor.Cursor) { c.Eight() },
		api.ErrSum:   func(c *cursor.Cursor) { c.Fail(api.ErrSum) },
		api.ErrLong:  func(c *cursor.Cursor) { c.End() },
	}
	for e, stop := range stops {
		var kept *cursor.Cursor
		expectRun(t, "outermost", count(9), func(outermost *cursor.Cursor) {
			outermost.Take(4)
			expectRun(t, "outer", count(5), func(outer *cursor.Cursor) {
				outer.Take(3)
				cursor.Run(count(7), func(inner *cursor.Cursor) {
					kept = inner
					inner.Take(6)
					stop(outer)
					t.Error("the inner reading went on")
				})
				t.Error("the outer reading went on")
			}, 3, e)
			expectOutside(t, "an inner cursor that was given up", kept)
		}, 4, api.OK)
	}
}
