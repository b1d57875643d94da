package segment_test

import (
	"bytes"
	"math/rand/v2"
	"slices"
	"strings"
	"testing"

	"fascicle/api"
	"fascicle/frame"
	"fascicle/segment"
)

// P15.2: a segment without records, and one with a record, both worked out by hand.
func TestParseOfKnownSegments(t *testing.T) {
	c := config(12, 1)
	head := frame.Seal([]byte{1, 2, 12, 1, 0})
	expectView(t, c, 0, whole(c, head), segment.View{Used: 15})
	record := frame.Seal([]byte{2, 1, 1, 97, 1, 98})
	v := segment.View{Records: []api.Record{put(1, "a", "b")}, At: []uint32{15}, Used: 31}
	expectView(t, c, 0, whole(c, head, record), v)
	body := []byte{4, 1, 0, 0, 0, 31, 0, 0, 0}
	hash := []byte{0x5b, 0x6e, 0x8c, 0xa9, 0xf1, 0xc4, 0x4e, 0xd2} // the wide sum of "a": d24ec4f1a98c6e5b
	body = join(body, hash, []byte{15, 0, 0, 0}, hash)
	v.Sealed = true
	expectView(t, c, 0, whole(c, head, record, frame.Seal(body)), v)
}

// P15.2: each config and number that may be.
func TestParseOfEachHead(t *testing.T) {
	for c, numbers := range right() {
		if c.Exp > 14 && c.Segments != 2 {
			continue // few great ones are enough
		}
		l := []api.Record{put(1, "a", "b")}
		for _, number := range numbers {
			expectView(t, c, number, openOf(c, number, nil), viewOf(c, number, nil, false))
			expectView(t, c, number, openOf(c, number, l), viewOf(c, number, l, false))
			expectView(t, c, number, sealedOf(c, number, l), viewOf(c, number, l, true))
		}
	}
}

// P15.2, R2: of a config and number that may not be, whatever the bytes are, and how many.
func TestParseByWrongHeads(t *testing.T) {
	for c, numbers := range wrong() {
		for _, number := range numbers {
			for _, b := range [][]byte{nil, {}, {0}, {255}, make([]byte, 4095), make([]byte, 4096), make([]byte, 4097), whole(config(12, 1)), openOf(config(12, 2), 1, nil), sealedOf(config(12, 1), 0, many(3))} {
				expectNoView(t, "a wrong head", c, number, b, api.ErrArg)
			}
		}
	}
}

// P15.2: too few bytes, too many, and none.
func TestParseOfOtherSizes(t *testing.T) {
	for _, c := range []api.Config{config(12, 2), config(13, 2), config(14, 300)} {
		for _, l := range [][]api.Record{nil, many(1), many(20)} {
			for _, b := range [][]byte{openOf(c, 1, l), sealedOf(c, 1, append(l, gone(1, "a")))} {
				for _, n := range []int{0, 1, 14, 15, 16, 100, len(b) / 2, len(b) - 256, len(b) - 2, len(b) - 1} {
					expectNoView(t, "too few bytes", c, 1, b[:n], api.ErrForm)
				}
				for _, more := range [][]byte{{255}, {0}, {255, 255}, bytes.Repeat([]byte{255}, 256), b, openOf(c, 0, nil)} {
					expectNoView(t, "too many bytes", c, 1, join(b, more), api.ErrForm)
				}
				expectNoView(t, "another beginning", c, 1, b[1:], api.ErrForm)
				expectNoView(t, "a byte ahead", c, 1, join([]byte{0}, b[:len(b)-1]), api.ErrForm)
			}
		}
		expectNoView(t, "no bytes", c, 0, nil, api.ErrForm)
		expectNoView(t, "no bytes", c, 0, []byte{}, api.ErrForm)
	}
}

// P15.2: a segment of another config, or of another number.
func TestParseOfOtherHeads(t *testing.T) {
	c := config(12, 300)
	for _, l := range [][]api.Record{nil, many(1), many(20)} {
		for _, other := range []api.Config{config(12, 300), config(12, 299), config(12, 301), config(12, 65536), config(13, 300), config(24, 300)} {
			for _, number := range []uint32{0, 1, 2, 127, 128, 200, 255, 256, 298} {
				if other == c && number == 200 {
					continue
				}
				b := whole(c, headOf(other, number), join(lay(c, 200, l).frames)[len(headOf(c, 200)):])
				expectNoView(t, "another head", c, 200, b, api.ErrForm)
			}
		}
		b := openOf(c, 200, l)
		for number := range c.Segments {
			if number != 200 {
				expectNoView(t, "another number", c, number, b, api.ErrForm)
			}
		}
		expectNoView(t, "another config", config(12, 299), 200, b, api.ErrForm)
		expectNoView(t, "another config", config(12, 301), 200, b, api.ErrForm)
		expectNoView(t, "another config", config(13, 300), 200, b, api.ErrForm)
		expectNoView(t, "another config", config(13, 300), 200, join(b, b), api.ErrForm)
	}
}

// P15.2: frames that Add wouldn't take fit, as long as there are bytes for them: up to the last one.
func TestParseOfMoreFramesThanAddTakes(t *testing.T) {
	for c, number := range heads() {
		for _, l := range rows() {
			b := build(t, c, number, l)
			left := sizeOf(c) - len(b.Frames())
			if left < 20 {
				continue
			}
			last := exact(t, 7, left)
			expectRefused(t, b, last, refusal(b, last))
			all := append(slices.Clone(l), last)
			full := lay(c, number, all).frames
			if len(full) != sizeOf(c) {
				t.Fatalf("%d bytes", len(full))
			}
			expectView(t, c, number, full, viewOf(c, number, all, false))
			less := append(slices.Clone(l), exact(t, 7, left-1))
			expectView(t, c, number, openOf(c, number, less), viewOf(c, number, less, false))
		}
	}
}

// refusal tells why a record that doesn't fit is refused.
func refusal(b *segment.Builder, r api.Record) api.Errno {
	last := b.Room().Config
	empty, _ := segment.New(last, last.Segments-1)
	if empty.Room().Fits(len(recordOf(r))) {
		return api.ErrFull
	}
	return api.ErrTooLarge
}

// P15.2: a footer that has fewer bytes than it could have leaves place for frames that Add wouldn't take.
func TestParseOfSealedOnesThatAddWouldNotBuild(t *testing.T) {
	c := config(12, 1)
	l := many(40)
	b := build(t, c, 0, l)
	left := b.Room().Left()
	parsed := 0
	for more := 1; more < 40; more++ {
		all := append(slices.Clone(l), exact(t, 99, left+more))
		expectRefused(t, b, all[40], api.ErrFull)
		x := lay(c, 0, all)
		if len(x.frames)+len(x.foot) <= 4096 {
			expectView(t, c, 0, whole(c, x.frames, x.foot), viewOf(c, 0, all, true))
			parsed++
		} else {
			expectNoView(t, "a footer that is cut off", c, 0, join(x.frames, x.foot)[:4096], api.ErrForm)
		}
	}
	if parsed == 0 {
		t.Error("no such footer has its place")
	}
}

// P15.2: Seqs needn't rise.
func TestParseAsksNoSeqs(t *testing.T) {
	c := config(12, 1)
	for _, seqs := range [][]uint64{{0, 0}, {2, 1}, {1, 1, 1}, {1<<64 - 1, 0}, {3, 2, 1}, {1, 3, 2}} {
		var l []api.Record
		for _, seq := range seqs {
			l = append(l, put(seq, "k", "v"))
		}
		expectView(t, c, 0, openOf(c, 0, l), viewOf(c, 0, l, false))
		expectView(t, c, 0, sealedOf(c, 0, l), viewOf(c, 0, l, true))
	}
}

// P15.2: as many frames as there are bytes for, more of them than a footer has entries.
func TestParseOfVeryMany(t *testing.T) {
	c := config(24, 1)
	r := gone(1, "k")
	n := (1<<24 - 15) / len(recordOf(r))
	b := whole(c, headOf(c, 0), bytes.Repeat(recordOf(r), n))
	v, e := segment.Parse(c, 0, b)
	if e != api.OK || len(v.Records) != n || len(v.At) != n || int(v.Used) != 15+n*len(recordOf(r)) || v.Sealed || n <= 1<<20 {
		t.Fatalf("%d of %d records, Used %d, %d", len(v.Records), n, v.Used, e)
	}
	for i, x := range v.Records {
		if x != r || int(v.At[i]) != 15+i*len(recordOf(r)) {
			t.Fatalf("record %d: %v, at %d", i, x, v.At[i])
		}
	}
	b[len(b)-1] = 0
	expectNoView(t, "a nought at the end", c, 0, b, api.ErrForm)
}

// P15.2, P15.3: rows of frames of all kinds, in any order, and of what is none; what is parsed has just these bytes.
func TestParseOfAnyPieces(t *testing.T) {
	r := rand.New(rand.NewPCG(15, 2))
	told := map[bool]int{}
	for range 20000 {
		c := config(12, uint32(1+r.IntN(2)*200))
		number := uint32(r.IntN(int(c.Segments)))
		b := anyPieces(r, c, number)
		want, wantE := parsed(c, number, b)
		v, e := segment.Parse(c, number, b)
		if e != wantE || !same(v, want) {
			t.Fatalf("Parse by %v, %d of %s: %s, %d; it ought to be %s, %d", c, number, begin(b), show(v), e, show(want), wantE)
		}
		if e != api.OK {
			continue
		}
		told[v.Sealed]++
		x := lay(c, number, v.Records)
		if !v.Sealed {
			x.foot = nil
		}
		expectBytes(t, "what was parsed", whole(c, x.frames, x.foot), b)
	}
	if told[true] < 1000 || told[false] < 1000 {
		t.Errorf("parsed are %v", told)
	}
}

// anyPieces gives a segment of frames, most of them right, then a footer or none, and often something that is wrong.
func anyPieces(r *rand.Rand, c api.Config, number uint32) []byte {
	l := anyRecords(r, r.IntN(30), 1+r.IntN(60))
	x := lay(c, number, l)
	pieces := [][]byte{headOf(c, number)}
	for _, record := range l {
		pieces = append(pieces, recordOf(record))
	}
	if r.IntN(2) == 0 {
		pieces = append(pieces, x.foot)
	}
	others := [][]byte{{0}, {0, 0}, {1, 0}, {2, 1, 0}, {255}, {255, 0}, {255, 255, 255}, frame.Seal(nil), frame.Seal([]byte{5}), x.foot, headOf(c, number), recordOf(put(1, "a", "b"))}
	for r.IntN(2) == 0 {
		at := r.IntN(len(pieces) + 1)
		switch r.IntN(4) {
		case 0:
			pieces = slices.Delete(pieces, min(at, len(pieces)-1), min(at, len(pieces)-1)+1)
		case 1:
			pieces = slices.Insert(pieces, at, others[r.IntN(len(others))])
		case 2:
			other := r.IntN(len(pieces))
			at = min(at, len(pieces)-1)
			pieces[at], pieces[other] = pieces[other], pieces[at]
		case 3:
			at = min(at, len(pieces)-1)
			pieces[at] = bytes.Clone(pieces[at])
			pieces[at][r.IntN(len(pieces[at]))] = byte(r.IntN(3) - 1)
		}
		if len(pieces) == 0 {
			break
		}
	}
	b := whole(c, pieces...)
	if r.IntN(10) == 0 {
		b[len(b)-1-r.IntN(100)] = byte(r.IntN(256))
	}
	return b[:4096]
}

// P15.2: any bytes, also behind a head.
func TestParseOfAnyBytes(t *testing.T) {
	r := rand.New(rand.NewPCG(15, 3))
	c := config(12, 2)
	for i := range 2000 {
		b := []byte(text(r, 4096))
		switch i % 4 {
		case 1:
			copy(b, headOf(c, 1))
		case 2:
			copy(b, lay(c, 1, many(3)).frames)
		case 3:
			copy(b, bytes.Repeat([]byte{byte(i)}, 4096))
		}
		expectNoView(t, "any bytes", c, 1, b, api.ErrForm)
	}
}

// P15.2: values that hold frames: they aren't looked into.
func TestParseOfFramesWithinValues(t *testing.T) {
	c := config(13, 3)
	inner := sealedOf(config(12, 1), 0, many(17))
	l := []api.Record{put(1, "a", string(lay(c, 2, many(3)).frames)), put(2, string(headOf(c, 2)), string(inner)), put(3, strings.Repeat("\xff", 300), string(lay(c, 2, many(2)).foot))}
	expectBuilt(t, build(t, c, 2, l), c, 2, l)
}
