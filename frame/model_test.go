package frame_test

import (
	"bytes"
	"fmt"
	"math"
	"math/big"
	"math/rand/v2"
	"strings"

	"fascicle/api"
	"fascicle/wide"
)

// The model writes and reads byte by byte, with nothing of the package that is tested.

// lowFirst gives a number of 8 bytes.
func lowFirst(x uint64) []byte {
	b := make([]byte, 8)
	for i := range b {
		b[i] = byte(x)
		x /= 256
	}
	return b
}

// withSum gives a body, and its sum behind it.
func withSum(body []byte) []byte {
	return join(body, lowFirst(wide.Sum(0, body)))
}

// stuffed gives bytes stuffed: groups that end with a nought, or with the 254th byte that is none.
func stuffed(b []byte) []byte {
	all := []byte{}
	group := []byte{}
	full := false // did a group of 254 bytes end just here?
	for _, x := range b {
		full = false
		if x != 0 {
			group = append(group, x)
			full = len(group) == 254
		}
		if x == 0 || full {
			all = append(append(all, byte(len(group)+1)), group...)
			group = []byte{}
		}
	}
	if full {
		return all
	}
	return append(append(all, byte(len(group)+1)), group...)
}

// chunkOf gives a body's chunk.
func chunkOf(body []byte) []byte {
	return stuffed(withSum(body))
}

// frameOf gives a body's frame.
func frameOf(body []byte) []byte {
	return append(chunkOf(body), 0)
}

// plain gives the bytes that were stuffed.
func plain(chunk []byte) ([]byte, api.Errno) {
	if bytes.Contains(chunk, []byte{0}) {
		return nil, api.ErrForm
	}
	if len(chunk) == 0 {
		return nil, api.ErrShort
	}
	b := []byte{}
	for at := 0; at < len(chunk); {
		next := at + int(chunk[at])
		if next > len(chunk) {
			return nil, api.ErrShort
		}
		b = append(b, chunk[at+1:next]...)
		if chunk[at] < 255 {
			b = append(b, 0)
		}
		at = next
	}
	if chunkEndsFull(chunk) {
		return b, api.OK
	}
	b = b[:len(b)-1]
	if !bytes.Equal(stuffed(b), chunk) {
		return nil, api.ErrForm
	}
	return b, api.OK
}

// chunkEndsFull tells whether the last group of stuffed bytes is one of 254 bytes.
func chunkEndsFull(chunk []byte) bool {
	last := 0
	for at := 0; at < len(chunk); at += int(chunk[at]) {
		last = at
	}
	return chunk[last] == 255
}

// bodyOf is what Open ought to be.
func bodyOf(chunk []byte) ([]byte, api.Errno) {
	b, e := plain(chunk)
	if e != api.OK {
		return nil, e
	}
	if len(b) < 8 {
		return nil, api.ErrShort
	}
	body := b[:len(b)-8]
	if !bytes.Equal(withSum(body), b) {
		return nil, api.ErrSum
	}
	return body, api.OK
}

// written gives a number in as few bytes as can be.
func written(x uint64) []byte {
	b := []byte{}
	for x > 127 {
		b = append(b, byte(128+x%128))
		x /= 128
	}
	return append(b, byte(x))
}

// longer gives a number in one byte more than it has: not as short as can be.
func longer(x uint64) []byte {
	b := written(x)
	b[len(b)-1] += 128
	return append(b, 0)
}

// numberAt reads the number that stands at a place, of any size, and where it ends.
func numberAt(b []byte, at int) (x *big.Int, next int, e api.Errno) {
	x = new(big.Int)
	for i := 0; ; i++ {
		switch {
		case at+i >= len(b):
			return x, at, api.ErrShort
		case i == 9 && b[at+i] > 1:
			return x, at, api.ErrLong
		case i > 0 && b[at+i] == 0:
			return x, at, api.ErrForm
		}
		bits := big.NewInt(int64(b[at+i] % 128))
		x.Add(x, bits.Lsh(bits, uint(7*i)))
		if b[at+i] < 128 {
			return x, at + i + 1, api.OK
		}
	}
}

// headOf is what GetHead ought to be of the chunk of a body.
func headOf(body []byte) (api.Config, uint32, api.Errno) {
	for i, want := range []byte{1, 2} {
		if i >= len(body) {
			return api.Config{}, 0, api.ErrShort
		}
		if body[i] != want {
			return api.Config{}, 0, api.ErrForm
		}
	}
	if len(body) < 3 {
		return api.Config{}, 0, api.ErrShort
	}
	segments, at, e := numberAt(body, 3)
	if e != api.OK {
		return api.Config{}, 0, e
	}
	number, at, e := numberAt(body, at)
	if e != api.OK {
		return api.Config{}, 0, e
	}
	if at < len(body) {
		return api.Config{}, 0, api.ErrLong
	}
	if body[2] < 12 || body[2] > 24 || segments.Cmp(big.NewInt(65536)) > 0 || number.Cmp(segments) >= 0 {
		return api.Config{}, 0, api.ErrArg
	}
	return api.Config{Exp: body[2], Segments: uint32(segments.Uint64())}, uint32(number.Uint64()), api.OK
}

// headBody gives a head's body.
func headBody(c api.Config, number uint32) []byte {
	return join([]byte{1, 2, c.Exp}, written(uint64(c.Segments)), written(uint64(number)))
}

// recordBody gives a record's body.
func recordBody(r api.Record) []byte {
	key := join(written(uint64(len(r.Key))), []byte(r.Key))
	if r.Delete {
		return join([]byte{3}, written(r.Seq), key)
	}
	return join([]byte{2}, written(r.Seq), key, written(uint64(len(r.Value))), []byte(r.Value))
}

// head is a config and a number.
type head struct {
	config api.Config
	number uint32
}

// heads are some that may be: of small and of great configs, with the first number, the last one, and one between.
func heads() []head {
	var l []head
	for _, exp := range []uint8{12, 13, 20, 24} {
		for _, segments := range []uint32{1, 2, 127, 128, 129, 300, 16384, 16385, 65535, 65536} {
			for _, number := range []uint32{0, segments / 2, segments - 1} {
				l = append(l, head{api.Config{Exp: exp, Segments: segments}, number})
			}
		}
	}
	return l
}

// wrongHeads are some that may not be.
func wrongHeads() []head {
	var l []head
	for _, c := range []api.Config{{}, {Exp: 11, Segments: 1}, {Exp: 25, Segments: 65536}, {Exp: 0, Segments: 7}, {Exp: 255, Segments: 300}, {Exp: 12, Segments: 0}, {Exp: 24, Segments: 0}, {Exp: 12, Segments: 65537}, {Exp: 24, Segments: math.MaxUint32}, {Exp: 11, Segments: math.MaxUint32}} {
		for _, number := range []uint32{0, 1, c.Segments - 1, c.Segments, c.Segments + 1, math.MaxUint32} {
			l = append(l, head{c, number})
		}
	}
	for _, h := range heads() {
		for _, number := range []uint32{h.config.Segments, h.config.Segments + 1, 65536, 65537, 1 << 31, math.MaxUint32} {
			l = append(l, head{h.config, max(number, h.config.Segments)})
		}
	}
	return l
}

// records are some that may be.
func records() []api.Record {
	return []api.Record{
		{Seq: 1, Key: "a", Value: "b"},
		{Key: "a"},
		{Key: "\x00", Value: "\x00\x00"},
		{Seq: 7, Key: "k", Value: "\x00\x00"},
		{Seq: math.MaxUint64, Key: "\xff\xfe", Value: strings.Repeat("x", 300)},
		{Seq: 1 << 40, Key: strings.Repeat("k", 245), Value: strings.Repeat("\x00v", 254)},
		{Seq: 300, Key: strings.Repeat("k", api.MaxKey), Value: strings.Repeat("v", api.MaxValue)},
		{Delete: true, Seq: 2, Key: "a"},
		{Delete: true, Key: "\x00"},
		{Delete: true, Seq: math.MaxUint64, Key: strings.Repeat("\x00", api.MaxKey)},
	}
}

// join puts pieces one behind the other.
func join(pieces ...[]byte) []byte {
	return bytes.Join(pieces, nil)
}

// begin shows how bytes begin.
func begin(b []byte) string {
	if len(b) > 40 {
		return fmt.Sprintf("%v .. (%d bytes)", b[:40], len(b))
	}
	return fmt.Sprint(b)
}

// lengths are at the edges of stuffing, with the sum's 8 bytes and without, and some thousands.
func lengths() []int {
	return []int{0, 1, 2, 7, 8, 9, 100, 244, 245, 246, 247, 253, 254, 255, 256, 499, 500, 501, 508, 509, 1000, 4096, 7000}
}

// noNoughts gives n bytes without a nought, whose sum has none either.
func noNoughts(n int) []byte {
	b := bytes.Repeat([]byte{1}, n)
	for try := 0; bytes.Contains(withSum(b), []byte{0}); try++ {
		b[try%n] = byte(1 + try*7%255)
	}
	return b
}

// bodies are bodies of each length: without noughts, with some at the edges of groups, and of nothing but noughts.
func bodies() [][]byte {
	var l [][]byte
	r := rand.New(rand.NewPCG(9, 1))
	for _, n := range lengths() {
		l = append(l, noNoughts(n), make([]byte, n), mixed(r, n))
		for _, at := range []int{0, 1, n / 2, 252, 253, 254, 255, n - 2, n - 1} {
			if at >= 0 && at < n {
				b := noNoughts(n)
				b[at] = 0
				l = append(l, b)
			}
		}
	}
	return l
}

// mixed gives n bytes, often noughts.
func mixed(r *rand.Rand, n int) []byte {
	b := make([]byte, n)
	for i := range b {
		if r.IntN(3) > 0 {
			b[i] = byte(r.IntN(256))
		}
	}
	return b
}
