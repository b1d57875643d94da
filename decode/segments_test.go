package decode_test

import (
	"bytes"
	"encoding/binary"
	"slices"
	"testing"

	"fascicle/api"
	"fascicle/frame"
	"fascicle/segment"
)

// P17.1, P17.2: a segment less: without the last one the one ahead is sealed; without another one numbers don't rise by one.
func TestASegmentLess(t *testing.T) {
	c, l := three()
	b := encode(t, c, l)
	views := modelOf(c, b).views
	expectSegments(t, "without the last one", c, b[:8192], views[0], views[1])
	expectSegments(t, "just the first one", c, b[:4096], views[0])
	expectError(t, "without the first one", c, b[4096:], api.ErrForm)
	expectError(t, "just the last one", c, b[8192:], api.ErrForm)
	expectError(t, "without the middle one", c, slices.Concat(b[:4096], b[8192:]), api.ErrForm)
}

// P17.1, P17.2: a segment more, at each place: Erased, noughts, each of the image's own.
func TestASegmentMore(t *testing.T) {
	c, l := three()
	all := parts(c, encode(t, c, l))
	for at := range len(all) + 1 {
		for _, more := range append(all, fill(4096, 255), fill(4096, 0)) {
			b := bytes.Join(slices.Insert(slices.Clone(all), at, more), nil)
			if len(b) != 4*4096 {
				t.Fatalf("%d bytes", len(b))
			}
			expectError(t, "a segment more", c, b, api.ErrForm)
		}
	}
}

// P17.1, P17.2: two segments exchanged, and all in turn.
func TestSegmentsExchanged(t *testing.T) {
	c, l := three()
	all := parts(c, encode(t, c, l))
	for _, order := range [][3]int{{0, 2, 1}, {1, 0, 2}, {2, 1, 0}, {1, 2, 0}, {2, 0, 1}, {0, 0, 0}, {0, 1, 1}, {0, 0, 2}, {2, 2, 2}} {
		b := slices.Concat(all[order[0]], all[order[1]], all[order[2]])
		expectError(t, "segments exchanged", c, b, api.ErrForm)
	}
}

// P17.1, P17.2: images by other configs: of another Exp, of other Segments.
func TestImagesByOtherConfigs(t *testing.T) {
	all := configs()
	for _, l := range rows() {
		if len(l) == 0 {
			continue // no bytes are the image by each config
		}
		for _, c := range all {
			b := encode(t, c, l)
			for _, other := range all {
				if other == c {
					continue
				}
				want := count(other, len(b))
				if want == api.OK {
					want = api.ErrForm
				}
				expectError(t, "an image by another config", other, b, want)
			}
		}
	}
}

// P17.1, P17.2: two images, one behind the other: the same ones, and unlike ones.
func TestTwoImages(t *testing.T) {
	c := config(12, 20)
	_, l := three()
	later := []api.Record{put(1<<63+1, "k", "v")}
	for _, first := range [][]api.Record{many(1), many(100), great(2), l} {
		for _, second := range [][]api.Record{many(1), l, later} {
			b := slices.Concat(encode(t, c, first), encode(t, c, second))
			expectError(t, "two images", c, b, api.ErrForm)
		}
	}
}

// P17.1, P17.2: an image whose last segment is sealed; of one segment, and of several.
func TestTheLastOneIsSealed(t *testing.T) {
	c, l := three()
	for _, l := range [][]api.Record{many(1), many(17), great(2), l} {
		all := parts(c, encode(t, c, l))
		views := modelOf(c, bytes.Join(all, nil)).views
		last := len(all) - 1
		all[last] = lay(c, uint32(last), views[last].Records).sealed()
		views[last].Sealed = true
		expectSegments(t, "the last one is sealed", c, bytes.Join(all, nil), views...)
	}
}

// P17.1, P17.2: an image of which the first or a middle segment isn't sealed, or none is.
func TestAMiddleOneIsNotSealed(t *testing.T) {
	c, l := three()
	image := encode(t, c, l)
	for _, open := range [][]int{{0}, {1}, {0, 1}} {
		all, views := parts(c, image), modelOf(c, image).views
		for _, i := range open {
			all[i] = lay(c, uint32(i), views[i].Records).open()
			views[i].Sealed = false
		}
		expectSegments(t, "not sealed", c, bytes.Join(all, nil), views...)
	}
}

// laidOf gives the bytes of segments with these records, all sealed but the last one, and their views.
func laidOf(c api.Config, rows ...[]api.Record) ([]byte, []segment.View) {
	var b []byte
	var views []segment.View
	for i, l := range rows {
		x := lay(c, uint32(i), l)
		last := i == len(rows)-1
		views = append(views, x.view(!last))
		if last {
			b = append(b, x.open()...)
		} else {
			b = append(b, x.sealed()...)
		}
	}
	return b, views
}

// P17.1, P17.2: records that could stand in fewer segments, or earlier: some would fit into the segment ahead.
func TestRecordsInTooManySegments(t *testing.T) {
	c, l := three()
	for _, rows := range [][][]api.Record{
		{many(1), {put(2, "b", "")}},
		{many(100), {put(101, "b", "")}},
		{many(1), {put(2, "b", "")}, {put(3, "c", "")}},
		{l[:5], l[5:8], l[8:10], l[10:]},                    // the last one would fit
		{many(1), {put(2, "b", ""), put(3, "c", of(3500))}}, // as many segments, but a record stands too late
		{l[:1], l[1:3], l[3:5], {gone(1<<20, "a")}},
		{great(1), {put(2, "k", of(400))}}, // it just fits
	} {
		b, views := laidOf(c, rows...)
		expectSegments(t, "too many segments", c, b, views...)
		packed := slices.Concat(rows...)
		if again := encode(t, c, packed); bytes.Equal(again, b) {
			t.Errorf("%s are packed so", tell(packed))
		}
	}
}

// P17.1, P17.2: a record stands behind the one that it would fit behind, to the byte.
func TestRecordsThatJustFit(t *testing.T) {
	c := config(12, 3)
	first := put(1, "k", of(1000))
	x := lay(c, 0, []api.Record{first})
	left := 4096 - len(x.frames) - mostOf(2)
	for _, more := range []int{-100, -1, 0, 1, 2} {
		second := exact(t, 2, left+more)
		b, views := laidOf(c, []api.Record{first}, []api.Record{second})
		if more > 0 {
			expectImage(t, "it doesn't fit ahead", c, b, []api.Record{first, second})
		} else {
			expectSegments(t, "it fits ahead", c, b, views...)
		}
		b, views = laidOf(c, []api.Record{first, second})
		if more > 0 {
			expectSegments(t, "it doesn't fit there", c, b, views...)
		} else {
			expectImage(t, "it fits there", c, b, []api.Record{first, second})
		}
	}
}

// P17.1, P17.2: records that fill a segment up to its last byte, without room for a footer.
func TestNoRoomIsLeftForAFooter(t *testing.T) {
	c := config(12, 2)
	head := len(headOf(c, 0))
	for _, size := range []int{4096 - head, 4096 - head - 1, 4096 - head - mostOf(1) + 1} {
		b, views := laidOf(c, []api.Record{exact(t, 1, size)})
		expectSegments(t, "too large", c, b, views...)
	}
	for _, c := range []api.Config{config(12, 1), config(12, 2), config(12, 300)} { // there is no next segment, or there is one
		x := crowded(c, 0, many(1000))
		expectSegments(t, "as many as there are bytes for", c, x.open(), x.view(false))
	}
	l := append(great(1), many(1000)[1:]...)
	first := lay(c, 0, l[:1])
	last := crowded(c, 1, l[1:])
	expectSegments(t, "likewise in the last one", c, slices.Concat(first.sealed(), last.open()), first.view(true), last.view(false))
}

// crowded gives a segment with as many of the records as there are bytes for; it leaves no room for a footer.
func crowded(c api.Config, number uint32, l []api.Record) laid {
	x := begun(c, number)
	for _, r := range l {
		if len(x.frames)+len(recordOf(r)) > sizeOf(c) {
			break
		}
		x.add(r)
	}
	return x
}

// P17.1, P17.2: a frame that fits into segment 0, but is too large by the longer head of the greatest number.
func TestTooLargeByTheLongestHead(t *testing.T) {
	c := config(12, 65536)
	fit := 4096 - len(headOf(c, 65535)) - mostOf(1)
	for more := range len(headOf(c, 65535)) - len(headOf(c, 0)) + 1 {
		l := []api.Record{exact(t, 1, fit+more)}
		b, views := laidOf(c, l)
		if more == 0 {
			expectImage(t, "not too large", c, b, l)
		} else {
			expectSegments(t, "too large", c, b, views...)
		}
	}
}

// P17.1, P17.2: records that don't rise: from one segment to the next, and within one.
func TestRecordsThatDoNotRise(t *testing.T) {
	c, l := three()
	at := func(i int, seq uint64) []api.Record {
		l := slices.Clone(l)
		l[i].Seq = seq
		return l
	}
	ahead := func(i int) uint64 { return l[i-1].Seq }
	for _, i := range []int{1, 4, 5, 7, 8, 10} {
		for _, seq := range []uint64{ahead(i), ahead(i) - 1, 0} {
			x := at(i, seq)
			b, views := laidOf(c, x[:5], x[5:8], x[8:])
			expectSegments(t, "they don't rise", c, b, views...)
		}
	}
	b, _ := laidOf(c, l[:5], l[5:8], l[8:])
	expectImage(t, "they rise", c, b, l)
	last := great(3)
	last[0].Seq, last[1].Seq, last[2].Seq = 3, 1, 2
	b, views := laidOf(c, last[:1], last[1:2], last[2:])
	expectSegments(t, "one of each segment", c, b, views...)
}

// P17.1, P17.2: a segment without records: alone, ahead, in the midst, and last.
func TestASegmentWithoutRecords(t *testing.T) {
	c, l := three()
	expectSegments(t, "alone", c, begun(c, 0).open(), begun(c, 0).view(false))
	expectSegments(t, "two of them", c, slices.Concat(begun(c, 0).open(), begun(c, 1).open()), begun(c, 0).view(false), begun(c, 1).view(false))
	b, views := laidOf(c, l[:5], l[5:8], l[8:], nil)
	expectSegments(t, "last", c, b, views...)
	x := lay(c, 2, l[8:])
	b = slices.Concat(part(c, b, 0), part(c, b, 1), x.sealed(), begun(c, 3).open())
	expectSegments(t, "last, behind a full one", c, b, views[0], views[1], x.view(true), begun(c, 3).view(false))
	for i := range 3 {
		rows := slices.Insert([][]api.Record{l[:5], l[5:8], l[8:]}, i, nil)
		b, views := laidOf(c, rows...)
		copy(part(c, b, i), begun(c, uint32(i)).open()) // none is sealed without records
		views[i].Sealed = false
		expectSegments(t, "in the midst", c, b, views...)
	}
}

// P17.1, P17.2: a footer without entries is none.
func TestAFooterWithoutEntries(t *testing.T) {
	c, l := three()
	expectError(t, "alone", c, begun(c, 0).sealed(), api.ErrForm)
	b, _ := laidOf(c, nil, l[:5])
	expectError(t, "ahead", c, b, api.ErrForm)
	b, _ = laidOf(c, l[:5], nil, l[5:8])
	expectError(t, "in the midst", c, b, api.ErrForm)
}

// P17.1, P17.2: segments in each of which something is wrong that has its sum all the same.
func TestWrongSegments(t *testing.T) {
	c, l := three()
	x := lay(c, 0, l[:5])
	foot := footOf(len(x.frames), x.l, x.at)
	behind := slices.Concat(lay(c, 1, l[5:8]).sealed(), lay(c, 2, l[8:]).open())
	body := binary.LittleEndian.AppendUint32([]byte{4}, 1<<20+1)
	for what, b := range map[string][]byte{
		"no footer's Used":             x.fill(footOf(len(x.frames)-1, x.l, x.at)),
		"a record less in the footer":  x.fill(footOf(len(x.frames), x.l[1:], x.at[1:])),
		"another place in the footer":  x.fill(footOf(len(x.frames), x.l, append([]uint32{14}, x.at[1:]...))),
		"another key in the footer":    x.fill(footOf(len(x.frames), append([]api.Record{put(1, "z", "")}, x.l[1:]...), x.at)),
		"two footers":                  x.fill(slices.Concat(foot, foot)),
		"a record behind its footer":   x.fill(slices.Concat(foot, recordOf(put(9, "a", "")))),
		"a nought behind its footer":   x.fill(append(slices.Clone(foot), 0)),
		"a nought behind the frames":   x.fill([]byte{0}),
		"another head behind the head": x.fill(headOf(c, 0)),
		"a body of another kind":       x.fill(frame.Seal([]byte{5, 1, 1, 97, 0})),
		"a body of nothing":            x.fill(frame.Seal(nil)),
		"a footer of too many entries": x.fill(frame.Seal(body)),
		"bytes that aren't Erased":     x.fill([]byte{1, 2, 3}),
		"the head of another number":   lay(c, 1, l[:5]).sealed(),
		"the head of another Exp":      lay(config(13, 5), 0, l[:5]).sealed()[:4096],
		"the head of other Segments":   lay(config(12, 4), 0, l[:5]).sealed(),
		"no head":                      append(x.sealed()[len(headOf(c, 0)):], fill(len(headOf(c, 0)), 255)...),
		"Erased":                       fill(4096, 255),
		"noughts":                      fill(4096, 0),
	} {
		if len(b) != 4096 {
			t.Fatalf("%s: %d bytes", what, len(b))
		}
		expectError(t, what+", alone", c, b, api.ErrForm)
		expectError(t, what, c, slices.Concat(b, behind), api.ErrForm)
	}
	expectImage(t, "nothing is wrong", c, slices.Concat(x.sealed(), behind), l)
}

// P17.2: Views asks neither whether segments are sealed nor what their records are: each row of segments is told as it is.
func TestViewsOfAnySegments(t *testing.T) {
	c := config(12, 6)
	_, l := three()
	falling := []api.Record{put(9, "a", "1"), put(9, "a", "1"), put(3, "b", ""), gone(0, "a")}
	rows := [][]api.Record{falling, nil, many(70), l[:5], falling[:1], great(1)}
	for sealed := range 1 << len(rows) {
		var b []byte
		var views []segment.View
		for i, l := range rows {
			x := lay(c, uint32(i), l)
			seal := sealed>>i&1 == 1 && len(l) > 0
			views = append(views, x.view(seal))
			if seal {
				b = append(b, x.sealed()...)
			} else {
				b = append(b, x.open()...)
			}
		}
		expectSegments(t, "any segments", c, b, views...)
	}
}
