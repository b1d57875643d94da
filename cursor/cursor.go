// Package cursor: bytes, read up to their end and no further (chapter 1).
package cursor

import (
	"bytes"

	"fascicle/api"
)

// Cursor is bytes, and how many were read.
type Cursor struct {
	bytes []byte
	at    int
	open  bool      // so that nothing happens to a zero value, nor once its reading is over
	why   api.Errno // why its reading stopped: OK as long as it goes on
}

// stopped is the panic that gives a reading up. It names its cursor, so that a reading within another one lets that one's pass.
type stopped struct {
	cursor *Cursor
}

// Run: a reading.
func Run(b []byte, read func(c *Cursor)) (at int, e api.Errno) {
	if read == nil {
		return 0, api.OK
	}
	c := &Cursor{bytes: b, open: true}
	defer func() {
		at, e = c.at, c.why
		*c = Cursor{} // the reading may have kept its cursor: the bytes aren't kept by it
		switch p := recover().(type) {
		case nil:
		case stopped:
			if p.cursor != c {
				panic(p)
			}
		default:
			panic(p)
		}
	}()
	read(c)
	return
}

// stop gives the reading up. The first error stays, whatever a deferred call of the reading still asks for.
func (c *Cursor) stop(e api.Errno) {
	if c.why == api.OK {
		c.why = e
	}
	panic(stopped{c})
}

// within: is this the cursor of a reading that isn't over?
func (c *Cursor) within() bool {
	return c != nil && c.open
}

// next goes past the next n bytes. They are a piece of what was handed in: not to be handed out.
func (c *Cursor) next(n int) []byte {
	if !c.within() {
		return nil
	}
	if c.why != api.OK || n > c.Left() {
		c.stop(api.ErrShort)
	}
	c.at += n
	return c.bytes[c.at-n : c.at]
}

// Fail: it stops.
func (c *Cursor) Fail(e api.Errno) {
	if c.within() && e != api.OK {
		c.stop(e)
	}
}

// Take: the next bytes.
func (c *Cursor) Take(n int) []byte {
	return bytes.Clone(c.next(max(n, 0)))
}

// Byte: the next one.
func (c *Cursor) Byte() byte {
	return byte(number(c.next(1)))
}

// Four: of 4 bytes.
func (c *Cursor) Four() uint32 {
	return uint32(number(c.next(4)))
}

// Eight: of 8.
func (c *Cursor) Eight() uint64 {
	return number(c.next(8))
}

// Left: how many are left.
func (c *Cursor) Left() int {
	if !c.within() {
		return 0
	}
	return len(c.bytes) - c.at
}

// At: how many were read.
func (c *Cursor) At() int {
	if !c.within() {
		return 0
	}
	return c.at
}

// End: there are no more.
func (c *Cursor) End() {
	if c.Left() > 0 {
		c.Fail(api.ErrLong)
	}
}

// number: the one that is written with the lowest byte first (of no bytes, as outside of a reading: 0).
func number(b []byte) uint64 {
	var x uint64
	for i, low := range b {
		x |= uint64(low) << (8 * i)
	}
	return x
}
