package table_test

import (
	"bytes"
	"encoding/binary"
	"math"
	"math/rand/v2"
	"slices"
	"strings"
	"testing"

	"fascicle/api"
	"fascicle/cursor"
	"fascicle/table"
)

const (
	high  = 1 << 63 // a Hash that would be below 0 if it had a sign
	most  = math.MaxUint64
	mostA = math.MaxUint32
)

// long gives a text of so many bytes.
func long(n int) string {
	return strings.Repeat("x", n)
}

// entry gives an entry.
func entry(hash uint64, at uint32) table.Entry {
	return table.Entry{Hash: hash, At: at}
}

// join puts pieces one behind the other.
func join(pieces ...[]byte) []byte {
	return bytes.Join(pieces, nil)
}

// less: does a stand ahead of b?
func less(a, b table.Entry) bool {
	if a.Hash != b.Hash {
		return a.Hash < b.Hash
	}
	return a.At < b.At
}

// rising works out whether entries rise: each pair of them, not only neighbours.
func rising(l []table.Entry) bool {
	for i := range l {
		for j := range i {
			if !less(l[j], l[i]) {
				return false
			}
		}
	}
	return true
}

// sorted works out what Sorted ought to tell: again and again the least one above the one ahead.
func sorted(l []table.Entry) []table.Entry {
	var out []table.Entry
	for {
		var best *table.Entry
		for i := range l {
			if len(out) > 0 && !less(out[len(out)-1], l[i]) {
				continue
			}
			if best == nil || less(l[i], *best) {
				best = &l[i]
			}
		}
		if best == nil {
			return out
		}
		out = append(out, *best)
	}
}

// find works out what Find ought to tell of entries that rise: how many are below the Hash, and how many aren't above it.
func find(l []table.Entry, hash uint64) (from, to int) {
	for _, x := range l {
		if x.Hash < hash {
			from++
		}
		if x.Hash <= hash {
			to++
		}
	}
	return from, to
}

// written works out the bytes of entries, whether or not they rise.
func written(l []table.Entry) []byte {
	var b []byte
	for _, x := range l {
		b = binary.LittleEndian.AppendUint64(b, x.Hash)
		b = binary.LittleEndian.AppendUint32(b, x.At)
	}
	return b
}

// put gives the bytes that Put writes into a Buffer without bytes.
func put(l []table.Entry) []byte {
	var w cursor.Buffer
	table.Put(&w, l)
	return w.Bytes()
}

// got is what a reading tells that asks for n entries.
type got struct {
	l        []table.Entry
	returned bool // Get answered: nothing stopped
	at       int  // how many bytes were read
	e        api.Errno
	left     int // how many bytes were left when Get answered
}

// get asks for n entries of bytes, at once.
func get(b []byte, n int) got {
	var x got
	x.at, x.e = cursor.Run(b, func(c *cursor.Cursor) {
		x.l = table.Get(c, n)
		x.returned, x.left = true, c.Left()
	})
	return x
}

// gotOf works out what such a reading ought to tell.
func gotOf(b []byte, n int) got {
	n = max(n, 0)
	if n > len(b) || 12*n > len(b) { // the first one so that 12 times it stays within bounds
		return got{e: api.ErrShort}
	}
	var l []table.Entry
	for i := range n {
		l = append(l, entry(binary.LittleEndian.Uint64(b[12*i:]), binary.LittleEndian.Uint32(b[12*i+8:])))
	}
	if !rising(l) {
		return got{at: 12 * n, e: api.ErrOrder}
	}
	return got{l: l, returned: true, at: 12 * n, e: api.OK, left: len(b) - 12*n}
}

// same: are both the same?
func (x got) same(y got) bool {
	return slices.Equal(x.l, y.l) && x.returned == y.returned && x.at == y.at && x.e == y.e && x.left == y.left
}

// expectGet holds Get of bytes against the model.
func expectGet(t *testing.T, b []byte, n int) {
	t.Helper()
	if x, want := get(b, n), gotOf(b, n); !x.same(want) {
		t.Errorf("Get of %d of %d bytes %v ..: %v; it ought to be %v", n, len(b), b[:min(len(b), 36)], x, want)
	}
}

// ends are entries at the ends of both numbers, and some between, rising.
func ends() []table.Entry {
	var l []table.Entry
	for _, hash := range []uint64{0, 1, 255, 256, mostA, mostA + 1, high - 1, high, high + 1, most - 1, most} {
		for _, at := range []uint32{0, 1, 256, 1<<31 - 1, 1 << 31, mostA - 1, mostA} {
			l = append(l, entry(hash, at))
		}
	}
	return l
}

// rows are rows of entries that rise.
func rows() [][]table.Entry {
	same := func(hash uint64, n int) []table.Entry {
		var l []table.Entry
		for i := range n {
			l = append(l, entry(hash, uint32(3*i)))
		}
		return l
	}
	l := [][]table.Entry{
		nil,
		{},
		{entry(0, 0)},
		{entry(7, 9)},
		{entry(most, mostA)},
		{entry(3, 5), entry(3, 9), entry(8, 1)},
		{entry(3, 9), entry(8, 1), entry(8, 5)},
		{entry(3, 9), entry(5, 0), entry(5, 1), entry(5, mostA), entry(9, 0)},
		{entry(0, 0), entry(0, mostA), entry(high, 0), entry(most, 0), entry(most, mostA)},
		{entry(high-1, 9), entry(high, 8), entry(high+1, 7)},
		ends(),
	}
	for _, n := range []int{2, 15, 16, 17, 40} {
		l = append(l, same(0, n), same(5, n), same(most, n), slices.Concat(same(4, n), same(6, n), same(8, n)))
	}
	return l
}

// wrong are entries that don't rise.
func wrong() [][]table.Entry {
	return [][]table.Entry{
		{entry(0, 0), entry(0, 0)},
		{entry(7, 9), entry(7, 9)},
		{entry(most, mostA), entry(most, mostA)},
		{entry(7, 9), entry(7, 8)},
		{entry(7, mostA), entry(7, 0)},
		{entry(7, 9), entry(6, 9)},
		{entry(7, 0), entry(6, mostA)},
		{entry(high, 0), entry(high-1, 0)},
		{entry(high, 0), entry(0, 0)},
		{entry(most, 0), entry(0, 0)},
		{entry(1, 1), entry(2, 2), entry(3, 3), entry(3, 3)},
		{entry(1, 1), entry(1, 1), entry(2, 2), entry(3, 3)},
		{entry(1, 1), entry(3, 3), entry(2, 2), entry(4, 4)},
		{entry(5, 1), entry(2, 9), entry(5, 0), entry(2, 9)},
		{entry(9, 0), entry(8, 0), entry(7, 0), entry(6, 0)},
		{entry(7, 1), entry(7, 3), entry(7, 2)},
		{entry(7, 2), entry(7, 2), entry(7, 2)},
	}
}

// some gives entries of few Hashes and Ats, in no order, so that many stand several times.
func some(r *rand.Rand, n int) []table.Entry {
	hashes := []uint64{0, 1, 2, 3, high - 1, high, most - 1, most}
	ats := []uint32{0, 1, 1 << 31, mostA}
	var l []table.Entry
	for range n {
		l = append(l, entry(hashes[r.IntN(len(hashes))], ats[r.IntN(len(ats))]))
	}
	return l
}
