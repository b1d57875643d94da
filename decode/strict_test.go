package decode_test

import (
	"bytes"
	"math/rand/v2"
	"slices"
	"testing"

	"fascicle/api"
	"fascicle/decode"
	"fascicle/image"
)

// P1, P17.3: of any bytes there is at most one row of records: unlike records have unlike bytes, and each row's are decoded to it alone.
func TestBytesHaveOneRowOfRecords(t *testing.T) {
	c := config(12, 5)
	l := rows()
	_, base := three()
	for i := range base { // each of these differs from it in one thing
		other := slices.Clone(base)
		other[i].Seq++
		l = append(l, other)
		other = slices.Clone(base)
		other[i].Key = other[i].Key + "k"
		l = append(l, other, slices.Delete(slices.Clone(base), i, i+1))
	}
	seen := map[string][]api.Record{}
	for _, row := range l {
		b, e := image.Encode(c, row)
		if e != api.OK {
			continue // by a Seq more some don't rise
		}
		if first, ok := seen[string(b)]; ok && !slices.Equal(first, row) {
			t.Errorf("%s have the image of %s", tell(row), tell(first))
		}
		seen[string(b)] = row
		expectImage(t, "an image", c, b, row)
	}
	if len(seen) < 50 {
		t.Errorf("there are just %d images", len(seen))
	}
}

// segments gives bytes of a few segments whose records come from one row, parted and sealed by chance.
func segments(r *rand.Rand, c api.Config, l []api.Record) []byte {
	var b []byte
	number := uint32(0)
	x := begun(c, number)
	for _, y := range l {
		size := len(recordOf(y))
		full := len(x.frames)+size+mostOf(len(x.l)+1) > sizeOf(c)
		if (full || r.IntN(60) == 0) && number+1 < c.Segments {
			b = append(b, either(r, x, r.IntN(20) > 0)...)
			number++
			x = begun(c, number)
		}
		if len(x.frames)+size+mostOf(len(x.l)+1) <= sizeOf(c) {
			x.add(y)
		}
	}
	return append(b, either(r, x, r.IntN(10) == 0)...)
}

// either gives a segment sealed, or not.
func either(r *rand.Rand, x laid, sealed bool) []byte {
	if sealed && len(x.l) > 0 {
		return x.sealed()
	}
	return x.open()
}

// P1, P17.3: of segments that are laid by chance just those are decoded that are the image of their records, byte for byte.
func TestSegmentsLaidByChance(t *testing.T) {
	r := rand.New(rand.NewPCG(17, 4))
	images, others := 0, 0
	for round := range 600 {
		c := config(12, uint32(1+r.IntN(8)))
		l := rising(r, r.IntN(30), []int{1, 30, 300, 1500}[round%4])
		if r.IntN(5) == 0 && len(l) > 1 {
			i := r.IntN(len(l) - 1)
			l[i], l[i+1] = l[i+1], l[i]
		}
		b := segments(r, c, l)
		x := expect(t, "by chance", c, b)
		want, e := image.Encode(c, found(b))
		if (x.e == api.OK) != (e == api.OK && bytes.Equal(want, b)) {
			t.Errorf("Decode by %v of %d bytes tells %d; its records' image: %d, %t", c, len(b), x.e, e, bytes.Equal(want, b))
		}
		if x.e == api.OK {
			images++
		} else if x.eViews == api.OK {
			others++
		}
	}
	if images < 100 || others < 100 {
		t.Errorf("%d were images, %d just segments", images, others)
	}
}

// P17.1: Is tells the same as Decode, of images and what is left of them behind any change.
func TestIsTellsTheSameAsDecode(t *testing.T) {
	r := rand.New(rand.NewPCG(17, 5))
	for range 400 {
		c := config(12, uint32(1+r.IntN(6)))
		b, _ := encoded(c, rising(r, r.IntN(20), 900))
		b = bytes.Clone(b)
		switch n := len(b); {
		case n > 0 && r.IntN(3) == 0:
			b[r.IntN(n)] ^= byte(r.IntN(3))
		case n > 0 && r.IntN(3) == 0:
			b = b[:4096*r.IntN(n/4096+1)]
		case r.IntN(3) == 0:
			b = append(b, fill(4096*r.IntN(5), 255)...)
		}
		_, e := decode.Decode(c, b)
		if decode.Is(c, b) != (e == api.OK) {
			t.Errorf("Is of %d bytes by %v tells %t, Decode %d", len(b), c, e != api.OK, e)
		}
		expect(t, "behind a change", c, b)
	}
}
