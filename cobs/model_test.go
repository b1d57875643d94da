package cobs_test

import (
	"bytes"
	"math/rand/v2"

	"fascicle/api"
)

// count gives the bytes 1, 2 .. 255, 1, 2 ..: so many, none of them a nought.
func count(size int) []byte {
	b := make([]byte, size)
	for i := range b {
		b[i] = byte(i%255 + 1)
	}
	return b
}

// laid gives bytes with so many in each run that aren't noughts, and a nought between each two runs.
func laid(runs ...int) []byte {
	var b []byte
	at := 0
	for i, size := range runs {
		if i > 0 {
			b = append(b, 0)
		}
		b = append(b, count(at + size)[at:]...)
		at += size
	}
	return b
}

// written gives what is written of groups, of each of which so many bytes aren't noughts.
func written(groups ...int) []byte {
	var b []byte
	at := 0
	for _, size := range groups {
		b = append(b, byte(size+1))
		b = append(b, count(at + size)[at:]...)
		at += size
	}
	return b
}

// stuffed works out, byte by byte as the chapter has it, what bytes are when stuffed.
func stuffed(b []byte) []byte {
	var all, group []byte
	write := func() {
		all = append(all, byte(len(group)+1))
		all = append(all, group...)
		group = nil
	}
	for i, x := range append(bytes.Clone(b), 0) {
		last, behindFull := i == len(b), i > 0 && b[i-1] != 0 && group == nil
		switch {
		case x == 0 && last && behindFull:
		case x == 0:
			write()
		default:
			group = append(group, x)
			if len(group) == 254 {
				write()
			}
		}
	}
	return all
}

// plain works out, error by error as the chapter has them, what is to be told of bytes that may be stuffed.
func plain(b []byte) ([]byte, api.Errno) {
	if bytes.Contains(b, []byte{0}) {
		return nil, api.ErrForm
	}
	if len(b) == 0 {
		return nil, api.ErrShort
	}
	var all []byte
	for at := 0; at < len(b); {
		end := at + int(b[at])
		if end > len(b) {
			return nil, api.ErrShort
		}
		all = append(all, b[at+1:end]...)
		if b[at] < 255 {
			all = append(all, 0)
		}
		if end == len(b) && b[at] < 255 {
			all = all[:len(all)-1]
		}
		at = end
	}
	if !bytes.Equal(stuffed(all), b) {
		return nil, api.ErrForm
	}
	return all, api.OK
}

// some gives bytes of any kind, noughts among them seldom or often, of lengths up to some groups.
func some(r *rand.Rand) []byte {
	b := make([]byte, r.IntN(1100)>>r.IntN(10))
	seldom := 1 << r.IntN(12)
	for i := range b {
		b[i] = byte(r.IntN(255) + 1)
		if r.IntN(seldom) == 0 {
			b[i] = 0
		}
	}
	return b
}
