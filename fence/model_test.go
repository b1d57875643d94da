package fence_test

import (
	"bytes"
	"encoding/binary"
	"math"
	"math/rand/v2"
	"slices"
	"testing"

	"fascicle/api"
	"fascicle/cursor"
	"fascicle/fence"
	"fascicle/table"
)

const (
	high = 1 << 63 // a Hash that would be below 0 if it had a sign
	most = math.MaxUint64
)

// entry gives an entry.
func entry(hash uint64, at uint32) table.Entry {
	return table.Entry{Hash: hash, At: at}
}

// join puts pieces one behind the other.
func join(pieces ...[]byte) []byte {
	return bytes.Join(pieces, nil)
}

// entries gives the entries of Hashes, that rise if the Hashes don't fall.
func entries(hashes []uint64) []table.Entry {
	var l []table.Entry
	for i, hash := range hashes {
		l = append(l, entry(hash, uint32(3*i)))
	}
	return l
}

// hashesOf gives n Hashes by a rule.
func hashesOf(n int, rule func(i int) uint64) []uint64 {
	var l []uint64
	for i := range n {
		l = append(l, rule(i))
	}
	return l
}

// fencesOf works out the fences of entries: each entry is asked for its place.
func fencesOf(l []table.Entry) []uint64 {
	var fences []uint64
	for i, x := range l {
		if i%16 == 0 {
			fences = append(fences, x.Hash)
		}
	}
	return fences
}

// rangeOf works out what Range ought to tell by the chapter's words, by counting.
func rangeOf(fences []uint64, n int, hash uint64) (from, to int) {
	below, notAbove := 0, 0
	for _, x := range fences {
		if x < hash {
			below++
		}
		if x <= hash {
			notAbove++
		}
	}
	if notAbove == 0 {
		return 0, 0
	}
	return 16 * max(below-1, 0), min(16*notAbove, n)
}

// mayHold: can the block i have entries of a Hash, as far as the fences tell? Its own fence mustn't be above it, the next one, if there is one, not below it.
func mayHold(fences []uint64, i int, hash uint64) bool {
	return fences[i] <= hash && (i == len(fences)-1 || fences[i+1] >= hash)
}

// falls: is one below the one ahead? Each pair is asked, not only neighbours.
func falls(fences []uint64) bool {
	for i := range fences {
		for j := range i {
			if fences[i] < fences[j] {
				return true
			}
		}
	}
	return false
}

// written works out the bytes of fences, whether or not they fall.
func written(fences []uint64) []byte {
	var b []byte
	for _, x := range fences {
		b = binary.LittleEndian.AppendUint64(b, x)
	}
	return b
}

// put gives the bytes that Put writes into a Buffer without bytes.
func put(fences []uint64) []byte {
	var w cursor.Buffer
	fence.Put(&w, fences)
	return w.Bytes()
}

// got is what a reading tells that asks for n fences.
type got struct {
	fences   []uint64
	returned bool // Get answered: nothing stopped
	at       int  // how many bytes were read
	e        api.Errno
	left     int // how many bytes can still be read behind Get, whether it answered or stopped
}

// get asks for n fences of bytes, at once.
func get(b []byte, n int) got {
	var x got
	x.at, x.e = cursor.Run(b, func(c *cursor.Cursor) {
		defer func() { x.left = c.Left() }()
		x.fences = fence.Get(c, n)
		x.returned = true
	})
	return x
}

// rest asks for n fences of bytes, and then for all bytes that can still be read.
func rest(b []byte, n int) []byte {
	var left []byte
	cursor.Run(b, func(c *cursor.Cursor) {
		fence.Get(c, n)
		left = c.Take(c.Left())
	})
	return left
}

// gotOf works out what such a reading ought to tell.
func gotOf(b []byte, n int) got {
	n = max(n, 0)
	if n > len(b) || 8*n > len(b) { // the first one so that 8 times it stays within bounds
		return got{e: api.ErrShort, left: len(b)}
	}
	var fences []uint64
	for i := range n {
		fences = append(fences, binary.LittleEndian.Uint64(b[8*i:]))
	}
	if falls(fences) {
		return got{at: 8 * n, e: api.ErrOrder, left: len(b) - 8*n}
	}
	return got{fences: fences, returned: true, at: 8 * n, e: api.OK, left: len(b) - 8*n}
}

// same: are both the same?
func (x got) same(y got) bool {
	return slices.Equal(x.fences, y.fences) && x.returned == y.returned && x.at == y.at && x.e == y.e && x.left == y.left
}

// expectGet holds Get of bytes against the model.
func expectGet(t *testing.T, b []byte, n int) {
	t.Helper()
	if x, want := get(b, n), gotOf(b, n); !x.same(want) {
		t.Errorf("Get of %d of %d bytes %v ..: %v; it ought to be %v", n, len(b), b[:min(len(b), 24)], x, want)
	}
}

// ends are Hashes at the ends, and some between, rising.
func ends() []uint64 {
	return []uint64{0, 1, 255, 256, math.MaxUint32, math.MaxUint32 + 1, high - 1, high, high + 1, most - 1, most}
}

// around are Hashes, those next to them, and the ends.
func around(hashes []uint64) []uint64 {
	l := ends()
	for _, hash := range hashes {
		l = append(l, hash-1, hash, hash+1)
	}
	slices.Sort(l)
	return slices.Compact(l)
}

// fenceRows are rows of fences none of which is below the one ahead.
func fenceRows() [][]uint64 {
	return [][]uint64{
		nil,
		{},
		{0},
		{7},
		{high},
		{most},
		{0, 16, 32},
		{3, 4, 5, 6},
		{5, 5},
		{0, 0, 0},
		{most, most, most},
		{0, most},
		{3, 8, 8, 8, 9},
		{3, 3, 8, 9, 9},
		{high - 1, high, high + 1},
		ends(),
		slices.Concat(hashesOf(20, func(int) uint64 { return 6 }), hashesOf(20, func(int) uint64 { return most })),
	}
}

// fallingRows are rows of fences of which at least one is below the one ahead.
func fallingRows() [][]uint64 {
	return [][]uint64{
		{1, 0},
		{7, 6},
		{high, high - 1},
		{high, 0},
		{most, 0},
		{most, most - 1},
		{2, 1, 3},
		{2, 3, 1},
		{3, 1, 2},
		{3, 3, 2, 2},
		{1, 2, 2, 1},
		{9, 8, 7, 6},
		{0, 16, 32, 31, 64},
		{256, 1},
	}
}

// hashRules are rules by which rows of Hashes are laid that don't fall: all unlike, all the same, the same over one fence and over several.
func hashRules() []func(i int) uint64 {
	return []func(i int) uint64{
		func(i int) uint64 { return uint64(i) },
		func(i int) uint64 { return uint64(3*i + 2) },
		func(i int) uint64 { return 0 },
		func(i int) uint64 { return 7 },
		func(i int) uint64 { return most },
		func(i int) uint64 { return uint64(i / 2 * 5) },
		func(i int) uint64 { return uint64(i / 15) },
		func(i int) uint64 { return uint64(i / 16) },
		func(i int) uint64 { return uint64(i/17 + 1) },
		func(i int) uint64 { return uint64((i + 8) / 16) },
		func(i int) uint64 { return uint64((i+1)/16*2 + 4) },
		func(i int) uint64 { return uint64((i + 15) / 16 * 3) },
		func(i int) uint64 { return uint64((i + 20) / 50 * 9) },
		func(i int) uint64 { return uint64(i/75) * most },
		func(i int) uint64 { return high - 60 + uint64(i) },
		func(i int) uint64 { return most - 149 + uint64(i) },
		func(i int) uint64 { return uint64(i) << 56 / 2 },
	}
}

// some gives n Hashes of few that don't fall, so that many stand several times.
func some(r *rand.Rand, n int) []uint64 {
	few := around([]uint64{4, 9})[:3+r.IntN(8)]
	l := hashesOf(n, func(int) uint64 { return few[r.IntN(len(few))] })
	slices.Sort(l)
	return l
}
