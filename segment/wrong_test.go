package segment_test

import (
	"bytes"
	"slices"
	"strings"
	"testing"

	"fascicle/api"
	"fascicle/frame"
	"fascicle/table"
)

// expectForm holds Parse of pieces, filled up, against ErrForm.
func expectForm(t *testing.T, what string, c api.Config, number uint32, pieces ...[]byte) {
	t.Helper()
	expectNoView(t, what, c, number, whole(c, pieces...), api.ErrForm)
}

// P15.2: each byte changed: those of the frames to each other byte, the Erased ones to some, all of them to a nought.
func TestParseOfOneByteChanged(t *testing.T) {
	c := config(12, 2)
	l := []api.Record{put(1, "a", "b"), gone(2, "\xff"), put(3, "c", strings.Repeat("\x00", 3))}
	for _, pieces := range [][][]byte{{headOf(c, 1)}, {lay(c, 1, l).frames}, {lay(c, 1, l).frames, lay(c, 1, l).foot}} {
		used := len(join(pieces...))
		b := whole(c, pieces...)
		for at, was := range b {
			for x := range 256 {
				if byte(x) == was || at >= used && x > 2 && x < 254 && x%50 != 0 {
					continue
				}
				b[at] = byte(x)
				expectNoView(t, "a byte changed", c, 1, b, api.ErrForm)
			}
			b[at] = was
		}
	}
	for _, l := range rows() {
		for _, b := range [][]byte{openOf(c, 1, l), sealedOf(c, 1, l)} {
			for at, was := range b {
				for _, x := range []byte{0, was ^ 1, 254} {
					if at%7 == 0 && x != was {
						b[at] = x
						expectNoView(t, "a byte changed", c, 1, b, api.ErrForm)
					}
				}
				b[at] = was
			}
		}
	}
}

// P15.2: noughts and other bytes behind the last frame.
func TestParseOfBytesBehindTheLastFrame(t *testing.T) {
	c := config(12, 2)
	for _, l := range [][]api.Record{nil, many(1), many(20)} {
		for _, sealed := range []bool{false, true} {
			x := lay(c, 1, l)
			frames := x.frames
			if sealed {
				frames = join(frames, x.foot)
			}
			if sealed && l == nil {
				continue
			}
			for _, behind := range [][]byte{{0}, {0, 0}, {1}, {1, 0}, {255, 0}, {254}, {255, 254}, {255, 255, 255, 1}, {9}, append(bytes.Repeat([]byte{255}, 254), 0), append(bytes.Repeat([]byte{255}, 254), 1, 0), []byte("behind")} {
				expectForm(t, "bytes behind", c, 1, frames, behind)
			}
			for n := range 4096 - len(frames) { // a nought at each place
				if n < 300 || n%50 == 0 || n > 4090-len(frames) {
					expectForm(t, "a nought behind", c, 1, frames, bytes.Repeat([]byte{255}, n), []byte{0})
				}
			}
		}
	}
}

// P15.2: frames that are wanting, cut off, or without their nought.
func TestParseOfFramesThatAreCutOff(t *testing.T) {
	c := config(12, 2)
	for _, l := range [][]api.Record{nil, many(1), many(3), many(17)} {
		x := lay(c, 1, l)
		all := join(x.frames, x.foot)
		ends := []int{len(headOf(c, 1))} // those of the head and of the records: what ends there is a segment
		for i := range l {
			ends = append(ends, ends[i]+len(recordOf(l[i])))
		}
		if l != nil {
			ends = append(ends, len(all))
		}
		for n := range len(all) {
			if !slices.Contains(ends, n) {
				expectForm(t, "cut off", c, 1, all[:n])
			}
		}
	}
}

// P15.2: no head, another one, or a second one.
func TestParseOfWrongHeads(t *testing.T) {
	c := config(12, 2)
	head, l := headOf(c, 1), many(2)
	a, b, foot := recordOf(l[0]), recordOf(l[1]), lay(c, 1, l).foot
	expectForm(t, "nothing at all", c, 1)
	expectForm(t, "noughts", c, 1, make([]byte, 4096))
	expectForm(t, "a nought", c, 1, []byte{0})
	expectForm(t, "no head", c, 1, a)
	expectForm(t, "no head", c, 1, a, b)
	expectForm(t, "no head", c, 1, a, b, foot)
	expectForm(t, "no head", c, 1, foot)
	expectForm(t, "no head", c, 1, []byte{0}, a, b)
	expectForm(t, "an empty chunk ahead", c, 1, []byte{0}, head, a)
	expectForm(t, "an Erased byte ahead", c, 1, []byte{255}, head, a)
	expectForm(t, "a head at the second place", c, 1, a, head)
	expectForm(t, "a second head", c, 1, head, head)
	expectForm(t, "a second head", c, 1, head, head, a, b)
	expectForm(t, "a second head", c, 1, head, a, head, b)
	expectForm(t, "a second head", c, 1, head, a, b, head)
	expectForm(t, "a second head", c, 1, head, a, b, head, foot)
	expectForm(t, "a second head", c, 1, head, a, b, foot, head)
	expectForm(t, "another segment's head", c, 1, head, a, headOf(c, 0))
	for _, body := range [][]byte{{}, {1}, {1, 1, 12, 2, 1}, {1, 3, 12, 2, 1}, {2, 2, 12, 2, 1}, {1, 2, 12, 2, 1, 0}, {1, 2, 12, 2}, {1, 2, 12, 130, 0, 1}, {1, 2, 12, 2, 129, 0}} {
		expectForm(t, "no head of this format", c, 1, frame.Seal(body))
		expectForm(t, "no head of this format", c, 1, frame.Seal(body), a, b)
	}
}

// P15.2: bodies that are no record's, between others and at the end.
func TestParseOfRecordsThatMayNotBe(t *testing.T) {
	c := config(12, 2)
	head, a := headOf(c, 1), recordOf(put(1, "a", "b"))
	for _, body := range [][]byte{
		{}, {0}, {1}, {2}, {3}, {4}, {5}, {255},
		{2, 1}, {2, 1, 1}, {2, 1, 1, 97}, {2, 1, 1, 97, 1},
		{2, 1, 0, 0}, {2, 1, 0, 1, 98}, {3, 1, 0}, // no key
		{3, 1, 1, 97, 0}, {3, 1, 1, 97, 1, 98}, // deleted, and a value
		{2, 1, 1, 97, 1, 98, 0}, {3, 1, 1, 97, 97}, // a byte more
		{2, 129, 0, 1, 97, 0}, {2, 1, 129, 0, 97, 0}, {2, 1, 1, 97, 128, 0}, // numbers that aren't as short as can be
		{2, 255, 255, 255, 255, 255, 255, 255, 255, 255, 2, 1, 97, 0}, // a Seq of more than 64 bits
		{1, 1, 1, 97, 1, 98}, {4, 1, 1, 97, 1, 98}, {5, 1, 1, 97, 1, 98},
	} {
		wrong := frame.Seal(body)
		expectForm(t, "no record", c, 1, head, wrong)
		expectForm(t, "no record", c, 1, head, wrong, a)
		expectForm(t, "no record", c, 1, head, a, wrong)
		expectForm(t, "no record", c, 1, head, a, wrong, a)
	}
	c = config(21, 2)
	long := join([]byte{3, 1, 129, 32}, bytes.Repeat([]byte{97}, 4097))
	great := join([]byte{2, 1, 1, 97, 129, 128, 64}, bytes.Repeat([]byte{98}, 1<<20+1))
	expectForm(t, "a key that is too long", c, 1, headOf(c, 1), frame.Seal(long))
	expectForm(t, "a value that is too long", c, 1, headOf(c, 1), frame.Seal(great))
}

// P15.2: chunks that are no frame's: empty, without a whole sum, with another one, stuffed otherwise.
func TestParseOfWhatIsNoFrame(t *testing.T) {
	c := config(12, 2)
	l := many(2)
	x := lay(c, 1, l)
	head, a := headOf(c, 1), recordOf(l[0])
	otherSum := bytes.Clone(a)
	otherSum[len(a)-2] ^= 1
	for _, chunk := range [][]byte{{}, {1}, {2}, {2, 1}, {9, 1, 2, 3}, {255}, {255, 255}, otherSum[:len(a)-1], a[:len(a)-2], a[1 : len(a)-1]} {
		wrong := append(bytes.Clone(chunk), 0)
		expectForm(t, "no frame", c, 1, head, wrong)
		expectForm(t, "no frame", c, 1, head, a, wrong)
		expectForm(t, "no frame", c, 1, head, wrong, a)
		expectForm(t, "no frame", c, 1, wrong, head, a)
		expectForm(t, "no frame", c, 1, x.frames, wrong, x.foot)
		expectForm(t, "no frame", c, 1, x.frames, x.foot, wrong)
	}
	full := fullFrame(t)
	end := len(full) - 1
	r, e := frame.GetRecord(full[:end])
	if e != api.OK {
		t.Fatal(e)
	}
	expectView(t, c, 1, whole(c, head, full), viewOf(c, 1, []api.Record{r}, false))
	expectForm(t, "a frame that is stuffed otherwise", c, 1, head, full[:end], []byte{1, 0})
}

// fullFrame gives a record's frame whose last group has 254 bytes: a group of none behind it would come to the same bytes.
func fullFrame(t *testing.T) []byte {
	t.Helper()
	for n := range 1000 {
		b := recordOf(put(uint64(n), "k", strings.Repeat("v", 230+n%20)))
		last := 0
		for at := 0; b[at] != 0; at += int(b[at]) {
			last = at
		}
		if b[last] == 255 {
			return b
		}
	}
	t.Fatal("no frame ends with a full group")
	return nil
}

// footFault is what is wrong of a footer of twenty records: its body.
type footFault struct {
	name string
	body []byte
}

// footFaults are footers that aren't that of the records at these places, up to used.
func footFaults(used uint32, l []table.Entry) []footFault {
	var all []footFault
	add := func(name string, used uint32, l []table.Entry) {
		all = append(all, footFault{name, footBody(used, l)})
	}
	for _, other := range []uint32{0, 1, 15, used - 1, used + 1, used + 256, used + 65536, 4096, 1<<32 - 1} {
		add("another Used", other, l)
	}
	for i := range l {
		for _, to := range []uint32{0, 1, 15, l[i].At - 1, l[i].At + 1, l[(i+1)%len(l)].At, used - 1, used} {
			other := slices.Clone(l)
			if other[i].At != to {
				other[i].At = to
				add("another place", used, other)
			}
		}
		for _, to := range []uint64{0, l[i].Hash - 1, l[i].Hash + 1, l[(i+1)%len(l)].Hash, 1<<64 - 1} {
			other := slices.Clone(l)
			if other[i].Hash != to {
				other[i].Hash = to
				add("another Hash", used, other)
			}
		}
		add("an entry less", used, slices.Delete(slices.Clone(l), i, i+1))
		add("an entry twice", used, slices.Insert(slices.Clone(l), i, l[i]))
		add("an entry more", used, slices.Insert(slices.Clone(l), i+1, table.Entry{Hash: l[i].Hash, At: l[i].At + 1}))
		if i > 0 {
			other := slices.Clone(l)
			other[i-1], other[i] = other[i], other[i-1]
			add("entries that don't rise", used, other)
		}
	}
	add("no entries", used, nil)
	body := footBody(used, l)
	all = append(all, footFault{"a byte more", append(bytes.Clone(body), 0)}, footFault{"a byte less", body[:len(body)-1]}, footFault{"a fence less", body[:len(body)-8]}, footFault{"a fence more", append(bytes.Clone(body), body[len(body)-8:]...)})
	for _, at := range []int{0, 1, len(body) - 8, len(body) - 16} { // the kind, how many entries, the fences
		other := bytes.Clone(body)
		other[at]++
		all = append(all, footFault{"another byte", other})
	}
	return all
}

// P15.2: a footer that isn't that of the records ahead of it.
func TestParseOfWrongFooters(t *testing.T) {
	for c, number := range heads() {
		for _, l := range [][]api.Record{many(1), many(2), many(16), many(17), many(20), slices.Repeat(many(1), 18)} {
			x := lay(c, number, l)
			expectView(t, c, number, whole(c, x.frames, x.foot), viewOf(c, number, l, true))
			for _, fault := range footFaults(uint32(len(x.frames)), entriesOf(l, x.at)) {
				if foot := frame.Seal(fault.body); !bytes.Equal(foot, x.foot) {
					expectForm(t, fault.name, c, number, x.frames, foot)
				}
			}
		}
	}
}

// P15.2: footers at a wrong place, or two of them.
func TestParseOfFootersAtWrongPlaces(t *testing.T) {
	c := config(12, 2)
	l := many(3)
	head, a, b := headOf(c, 1), recordOf(l[0]), recordOf(l[1])
	one, two := lay(c, 1, l[:1]), lay(c, 1, l[:2])
	expectForm(t, "a footer ahead of a record", c, 1, head, a, one.foot, b)
	expectForm(t, "a footer ahead of a record", c, 1, head, two.foot, a, b)
	expectForm(t, "a footer ahead of a record", c, 1, head, a, two.foot, b)
	expectForm(t, "a footer ahead of a record and at the end", c, 1, head, a, one.foot, b, two.foot)
	expectForm(t, "a footer ahead of the head", c, 1, one.foot, head, a)
	expectForm(t, "two footers", c, 1, head, a, one.foot, one.foot)
	expectForm(t, "two footers", c, 1, head, a, b, two.foot, two.foot)
	expectForm(t, "two footers", c, 1, head, a, b, one.foot, two.foot)
	expectForm(t, "two footers", c, 1, head, a, b, two.foot, one.foot)
	expectForm(t, "a footer of the records ahead of the last one", c, 1, head, a, b, one.foot)
	expectForm(t, "a footer of a record more", c, 1, head, a, two.foot)
	expectForm(t, "a footer of the same place in another segment", c, 1, head, a, lay(config(12, 300), 299, l[:1]).foot)
	expectForm(t, "a nought behind the footer", c, 1, head, a, one.foot, []byte{0})
	expectForm(t, "Erased bytes ahead of the footer", c, 1, head, a, []byte{255}, one.foot)
	expectForm(t, "a nought ahead of the footer", c, 1, head, a, []byte{0}, one.foot)
	behind := table.Entry{Hash: table.Hash("a"), At: uint32(len(one.frames) + len(one.foot))}
	both := append(entriesOf(l[:1], one.at), behind)
	slices.SortFunc(both, table.Compare)
	expectForm(t, "a footer that knows of a record behind it", c, 1, head, a, frame.Seal(footBody(1000, both)), b)
}

// P15.2: a sealed segment has a record at least, whatever its footer says.
func TestParseOfSealedOnesWithoutRecords(t *testing.T) {
	for c, number := range heads() {
		head := headOf(c, number)
		for _, used := range []uint32{0, 1, 15, uint32(len(head)), uint32(len(head)) + 1} {
			expectForm(t, "a footer without entries", c, number, head, frame.Seal(footBody(used, nil)))
			for _, at := range []uint32{0, 14, 15, uint32(len(head)) - 1} {
				expectForm(t, "an entry of no record", c, number, head, frame.Seal(footBody(used, []table.Entry{{Hash: table.Hash("a"), At: at}})))
			}
		}
		expectForm(t, "a footer of a record that isn't there", c, number, head, lay(c, number, many(1)).foot)
		expectForm(t, "a byte, 4", c, number, head, frame.Seal([]byte{4}))
	}
}
