package decode_test

import (
	"bytes"
	"math/rand/v2"
	"slices"
	"testing"

	"fascicle/api"
	"fascicle/decode"
)

// expectRefused: by a changed byte they are no segments any more. (Without the model, which would take long for so many.)
func expectRefused(t *testing.T, what string, c api.Config, b []byte) {
	t.Helper()
	x := ask(c, b)
	if x.e != api.ErrForm || x.l != nil || x.is || x.eViews != api.ErrForm || x.views != nil {
		t.Errorf("%s: Decode tells %s, %d, Is %t, Views %s, %d", what, tell(x.l), x.e, x.is, tellViews(x.views), x.eViews)
	}
}

// changes are what a byte may become.
func changes(x byte) []byte {
	l := []byte{x ^ 1, x ^ 128, x + 1, 0, 255}
	return slices.DeleteFunc(l, func(y byte) bool { return y == x })
}

// P17.1, P17.2, P17.3: each byte of an image of three segments changed: those of heads, frames, footers, noughts between them, Erased ones behind.
func TestEachByteChanged(t *testing.T) {
	c, l := three()
	b := encode(t, c, l)
	if len(b) != 3*4096 {
		t.Fatalf("it has %d bytes", len(b))
	}
	for at, was := range b {
		all := changes(was)
		b[at] = all[at%len(all)]
		expectRefused(t, "a byte changed", c, b)
		b[at] = was
	}
	expectImage(t, "changed back", c, b, l)
}

// where gives what stands at each place of a segment: 'h'ead, 'r'ecord, 'f'ooter, '0' a nought behind one of these, 'e'rased.
func where(x laid, sealed bool) string {
	b := x.open()
	used := len(x.frames)
	if sealed {
		used += bytes.IndexByte(x.sealed()[used:], 0) + 1
		b = x.sealed()
	}
	kinds := make([]byte, len(b))
	head := bytes.IndexByte(b, 0)
	for i := range b {
		switch {
		case i >= used:
			kinds[i] = 'e'
		case b[i] == 0:
			kinds[i] = '0'
		case i < head:
			kinds[i] = 'h'
		case i < len(x.frames):
			kinds[i] = 'r'
		default:
			kinds[i] = 'f'
		}
	}
	return string(kinds)
}

// P17.1, P17.2, P17.3: of each kind of bytes, in the first, the middle and the last segment, the first, the last and some between, to all that a byte may become.
func TestEachKindOfBytesChanged(t *testing.T) {
	c, l := three()
	b := encode(t, c, l)
	seen := map[byte]int{}
	for i, v := range modelOf(c, b).views {
		x := lay(c, uint32(i), v.Records)
		kinds := where(x, v.Sealed)
		for _, kind := range []byte("hr0fe") {
			for _, within := range some(kinds, kind) {
				seen[kind]++
				changed := bytes.Clone(b)
				for _, y := range changes(b[4096*i+within]) {
					changed[4096*i+within] = y
					expectError(t, "a byte changed of the kind "+string(kind), c, changed, api.ErrForm)
				}
			}
		}
	}
	if len(seen) != 5 || seen['f'] != 10 || seen['h'] != 15 {
		t.Errorf("just these were changed: %v", seen)
	}
}

// some gives five places of a kind, the first and the last one of them; none, if there is none.
func some(kinds string, kind byte) []int {
	var all []int
	for i := range len(kinds) {
		if kinds[i] == kind {
			all = append(all, i)
		}
	}
	if len(all) == 0 {
		return nil
	}
	n := len(all) - 1
	return []int{all[0], all[n/4], all[n/2], all[3*n/4], all[n]}
}

// P17.3: several bytes changed, exchanged, taken out and put in elsewhere; only what changes nothing is still taken.
func TestBytesMoved(t *testing.T) {
	c, l := three()
	b := encode(t, c, l)
	r := rand.New(rand.NewPCG(17, 3))
	for range 1500 {
		other := bytes.Clone(b)
		from, to := r.IntN(len(b)), r.IntN(len(b))
		n := min(1+r.IntN(1<<r.IntN(10)), len(b)-max(from, to))
		switch r.IntN(4) {
		case 0:
			copy(other[to:], b[from:from+n])
		case 1:
			copy(other[to:], fill(n, []byte{0, 255, 1}[r.IntN(3)]))
		case 2:
			other = append(slices.Delete(other, from, from+n), fill(n, 255)...)
		case 3:
			other = slices.Insert(other, from, fill(n, 255)...)[:len(b)]
		}
		if bytes.Equal(other, b) {
			continue
		}
		if _, e := decode.Decode(c, other); e != api.ErrForm {
			t.Errorf("%d bytes from %d to %d: %d", n, from, to, e)
		}
		if decode.Is(c, other) {
			t.Errorf("%d bytes from %d to %d: it is an image", n, from, to)
		}
	}
}

// P17.1: a byte less and a byte more, at each end and between.
func TestAByteLessAndAByteMore(t *testing.T) {
	c, l := three()
	b := encode(t, c, l)
	for _, at := range []int{0, 1, 14, 15, 16, 4095, 4096, 4097, 8191, 8192, 12287} {
		expectError(t, "a byte less", c, slices.Delete(bytes.Clone(b), at, at+1), api.ErrForm)
		for _, x := range []byte{0, 255, 1} {
			expectError(t, "a byte more", c, slices.Insert(bytes.Clone(b), at, x), api.ErrForm)
		}
	}
	for _, x := range []byte{0, 255, 1} {
		expectError(t, "a byte more behind", c, append(bytes.Clone(b), x), api.ErrForm)
	}
}
