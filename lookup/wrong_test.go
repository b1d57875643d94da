package lookup_test

import (
	"bytes"
	"fmt"
	"math"
	"math/rand/v2"
	"slices"
	"testing"

	"fascicle/api"
	"fascicle/fold"
	"fascicle/footer"
	"fascicle/frame"
	"fascicle/lookup"
	"fascicle/table"
)

// expectAnswer: of whole segments that are no image there is some answer, whatever it is: ErrForm, beside which there is nothing, or what Get and Look tell alike.
func expectAnswer(t *testing.T, what string, c api.Config, b []byte, keys []string) answers {
	t.Helper()
	x := ask(c, b, keys)
	for i, key := range keys {
		look, get := x.look[i], x.get[i]
		if look.e == api.ErrForm && look != (told{e: api.ErrForm}) || look.e != api.ErrForm && look.e != api.OK {
			t.Errorf("%s: Look of %.20q tells %s", what, key, look)
		}
		if look.kind != fold.Value && look.value != "" || look.kind < fold.Absent || look.kind > fold.Value {
			t.Errorf("%s: Look of %.20q tells %s", what, key, look)
		}
		if look.cost = (lookup.Cost{}); look != get {
			t.Errorf("%s: Look of %.20q tells %s, Get %s", what, key, look, get)
		}
	}
	if x.eAll == api.ErrForm && len(x.all) != 0 || x.eAll != api.ErrForm && x.eAll != api.OK {
		t.Errorf("%s: All tells %s, %d", what, tell(x.all), x.eAll)
	}
	if !slices.IsSortedFunc(x.all, func(a, b api.Record) int {
		if below(a.Key, b.Key) {
			return -1
		}
		return 1
	}) {
		t.Errorf("%s: All tells %s, which don't rise", what, tell(x.all))
	}
	return x
}

// expectForm: of these bytes nothing can be told, whatever the key is.
func expectForm(t *testing.T, what string, c api.Config, b []byte, keys []string) {
	t.Helper()
	x := expectAnswer(t, what, c, b, keys)
	for i, key := range keys {
		if x.look[i].e != api.ErrForm {
			t.Errorf("%s: Look of %.20q tells %s", what, key, x.look[i])
		}
	}
	if x.eAll != api.ErrForm {
		t.Errorf("%s: All tells %s, %d", what, tell(x.all), x.eAll)
	}
}

// few are keys that are asked of bytes that are no image.
func few() []string {
	return []string{"", "a", "b", "c", "d\x00", "\xff", "e", "f", "nobody"}
}

// P19.1: segments that are all one byte, or any bytes, with or without a head.
func TestNothingAtAll(t *testing.T) {
	r := rand.New(rand.NewPCG(19, 2))
	for _, c := range []api.Config{config(12, 1), config(12, 3), config(13, 2)} {
		for n := 1; n <= int(c.Segments); n++ {
			for _, x := range []byte{0, 255, 1, 2, 254} {
				expectForm(t, "one byte again and again", c, fill(n*sizeOf(c), x), few())
			}
			for range 30 {
				expectForm(t, "any bytes", c, []byte(text(r, n*sizeOf(c))), few())
			}
		}
	}
	c, l := three()
	b := encode(t, c, l)
	for range 300 {
		other := bytes.Clone(b)
		from := r.IntN(len(b))
		copy(other[from:], text(r, r.IntN(len(b)-from)))
		expectAnswer(t, "any bytes within an image", c, other, few())
	}
}

// P19.1: a byte changed anywhere, to a nought, to Erased, and to its neighbour.
func TestAByteChanged(t *testing.T) {
	c, l := three()
	b := encode(t, c, l)
	for at, was := range b {
		for _, x := range []byte{0, 255, was ^ 1} {
			b[at] = x
			if x != was && (at%5 == 0 || b[at] == 0 || was == 0) {
				expectAnswer(t, fmt.Sprintf("byte %d is %d", at, x), c, b, []string{"b", "c", "nobody"})
			}
		}
		b[at] = was
	}
}

// P19.1: segments left out, exchanged, twice, and put ahead of those of other images; Erased ones between and behind.
func TestSegmentsMoved(t *testing.T) {
	c, l := three()
	b := encode(t, c, l)
	pieces := [][]byte{b[:4096], b[4096:8192], b[8192:], encode(t, c, l[:2]), encode(t, c, many(200))[:4096], fill(4096, 255), fill(4096, 0)}
	pick := func(i int) []byte { return pieces[i%len(pieces)] }
	for i := range len(pieces) * len(pieces) * len(pieces) {
		j, k := i/len(pieces), i/len(pieces)/len(pieces)
		expectAnswer(t, "one segment", c, pick(i), few())
		expectAnswer(t, "two segments", c, slices.Concat(pick(i), pick(j)), few())
		expectAnswer(t, "three segments", c, slices.Concat(pick(i), pick(j), pick(k)), few())
		expectAnswer(t, "four segments", c, slices.Concat(pick(i), pick(j), pick(k), pick(2)), few())
	}
}

// P19.1: the last segments are lost, or there are Erased ones, or one without records, behind the image: an elder value isn't told.
func TestTheLastSegmentIsNone(t *testing.T) {
	c, l := three()
	b := encode(t, c, l)
	expectForm(t, "the last segment is lost", c, b[:8192], few())
	expectForm(t, "the last two segments are lost", c, b[:4096], few())
	expectForm(t, "an Erased segment behind", c, slices.Concat(b, fill(4096, 255)), few())
	for n := range uint32(4) {
		bare, _ := framesOf(t, c, n, nil)
		expectForm(t, "a segment without records behind", c, slices.Concat(b[:4096*n], bare, fill(4096-len(bare), 255)), few())
	}
	expectForm(t, "the last segment again", c, slices.Concat(b, b[8192:]), few())
	expectForm(t, "the image again", config(12, 9), slices.Concat(b, b), few())
}

// sealedBy gives an image of two segments whose first one has these frames, and behind them whatever is there for a footer.
func sealedBy(t *testing.T, c api.Config, frames, foot []byte) []byte {
	t.Helper()
	b := encode(t, c, []api.Record{put(1, "first", of(3900)), put(1<<62, "last", of(300))})
	if len(b) != 2*sizeOf(c) {
		t.Fatalf("%d bytes aren't two segments", len(b))
	}
	copy(b, fill(sizeOf(c), 255))
	copy(b[:sizeOf(c)], slices.Concat(frames, foot))
	return b
}

// framesOf gives a segment's frames, and where the records' ones begin.
func framesOf(t *testing.T, c api.Config, number uint32, l []api.Record) ([]byte, []uint32) {
	t.Helper()
	var at []uint32
	b, e := frame.PutHead(c, number)
	for _, r := range l {
		at = append(at, uint32(len(b)))
		piece, bad := frame.PutRecord(r)
		if bad != api.OK {
			t.Fatal(bad)
		}
		b = append(b, piece...)
	}
	if e != api.OK {
		t.Fatal(e)
	}
	return b, at
}

// footOf gives the frame of a footer, or of what would be one.
func footOf(t *testing.T, used uint32, l ...table.Entry) []byte {
	t.Helper()
	b, e := footer.Put(footer.Footer{Used: used, Table: table.Sorted(l)})
	if e != api.OK {
		t.Fatalf("no footer of %v: %d", l, e)
	}
	return b
}

// P19.1: footers that may be, but say other places than those of their keys: the head's, within a frame, of another key, none at all.
func TestFootersThatSayWrongPlaces(t *testing.T) {
	c := config(12, 2)
	l := []api.Record{put(1, "a", "1"), put(2, "b", "2"), gone(3, "a"), put(4, "c", "0123456789")}
	frames, at := framesOf(t, c, 0, l)
	used := uint32(len(frames))
	keys := append(few(), "last", "0123456789")
	for _, hash := range []uint64{table.Hash("a"), table.Hash("b"), table.Hash("nobody"), 0, math.MaxUint64} {
		for place := range used {
			foot := footOf(t, used, table.Entry{Hash: hash, At: place})
			expectAnswer(t, "one place", c, sealedBy(t, c, frames, foot), keys)
			foot = footOf(t, used, table.Entry{Hash: table.Hash("a"), At: at[0]}, table.Entry{Hash: hash, At: place}, table.Entry{Hash: table.Hash("a"), At: at[2]})
			expectAnswer(t, "a place more", c, sealedBy(t, c, frames, foot), keys)
		}
	}
}

// P19.1: footers that say another place for themselves than that where they stand; all their places may be below that, but behind the segment's end.
func TestFootersThatStandElsewhere(t *testing.T) {
	c := config(12, 2)
	frames, at := framesOf(t, c, 0, []api.Record{put(1, "a", "1")})
	right := uint32(len(frames))
	for _, used := range []uint32{at[0] + 1, right - 1, right + 1, right + 50, 4095, 4096, 4097, 8191, 8192, 1 << 24, 1 << 31, math.MaxUint32} {
		for _, place := range []uint32{0, at[0], right - 1, right, right + 1, right + 20, 4095, 4096, 4097, 8192, 1 << 31, math.MaxUint32 - 1} {
			if place < used {
				foot := footOf(t, used, table.Entry{Hash: table.Hash("a"), At: place})
				expectAnswer(t, "a footer that stands elsewhere", c, sealedBy(t, c, frames, foot), few())
			}
		}
	}
}

// P19.1: what stands for a footer is none: nothing, cut off at each place, without its nought, changed at each place, a body that may not be, with noughts behind it.
func TestNoFooters(t *testing.T) {
	c := config(12, 2)
	l := []api.Record{put(1, "a", "1"), put(2, "b", "2")}
	frames, at := framesOf(t, c, 0, l)
	foot := footOf(t, uint32(len(frames)), table.Entry{Hash: table.Hash("a"), At: at[0]}, table.Entry{Hash: table.Hash("b"), At: at[1]})
	keys := []string{"a", "b", "nobody", "last"}
	for n := range foot {
		expectAnswer(t, "cut off", c, sealedBy(t, c, frames, foot[:n]), keys)
		expectAnswer(t, "cut off, and a nought", c, sealedBy(t, c, frames, append(bytes.Clone(foot[:n]), 0)), keys)
		expectAnswer(t, "cut off ahead", c, sealedBy(t, c, frames, foot[n:]), keys)
		for _, x := range []byte{0, 255, foot[n] ^ 1} {
			changed := bytes.Clone(foot)
			changed[n] = x
			expectAnswer(t, "changed", c, sealedBy(t, c, frames, changed), keys)
		}
	}
	for _, body := range [][]byte{{}, {4}, {1}, {4, 0, 0, 0, 0, 0, 0, 0, 0}, {4, 255, 255, 255, 255, 255, 255, 255, 255}, bytes.Repeat([]byte{4}, 100)} {
		expectAnswer(t, "no footer's body", c, sealedBy(t, c, frames, frame.Seal(body)), keys)
	}
	for _, n := range []int{1, 2, 3, 100, 4096 - len(frames) - len(foot)} {
		expectAnswer(t, "noughts behind", c, sealedBy(t, c, frames, append(bytes.Clone(foot), fill(n, 0)...)), keys)
		expectAnswer(t, "a nought further behind", c, sealedBy(t, c, frames, slices.Concat(foot, fill(n-1, 255), []byte{0})), keys)
	}
	expectAnswer(t, "two footers", c, sealedBy(t, c, frames, slices.Concat(foot, foot)), keys)
	expectAnswer(t, "a footer alone", c, sealedBy(t, c, nil, foot), keys)
	expectAnswer(t, "a footer behind a nought", c, sealedBy(t, c, []byte{0}, foot), keys)
	expectAnswer(t, "noughts, and one other byte", c, sealedBy(t, c, fill(4096, 0), nil), keys)
	expectAnswer(t, "one nought, the first byte", c, sealedBy(t, c, []byte{0}, nil), keys)
	expectAnswer(t, "one nought, the last byte", c, sealedBy(t, c, append(fill(4095, 255), 0), nil), keys)
}
