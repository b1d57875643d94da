package pack_test

import (
	"math/rand/v2"
	"slices"
	"strings"
	"testing"

	"fascicle/api"
	"fascicle/footer"
	"fascicle/frame"
	"fascicle/pack"
	"fascicle/table"
)

// expectSteps: the first number is 0, and each other one is the one ahead or one more: so they never fall, rise by one, and each has a frame.
func expectSteps(t *testing.T, c api.Config, numbers []uint32) {
	t.Helper()
	for i, x := range numbers {
		switch {
		case i == 0 && x != 0:
			t.Errorf("by %v the first frame goes into segment %d", c, x)
		case i > 0 && x != numbers[i-1] && x != numbers[i-1]+1:
			t.Errorf("by %v frame %d goes into segment %d, the one ahead into %d", c, i, x, numbers[i-1])
		case x >= c.Segments:
			t.Errorf("by %v frame %d goes into segment %d", c, i, x)
		}
	}
}

// P14.3: numbers of segments never fall, and rise by one; each has a frame at least.
func TestNumbersRiseByOne(t *testing.T) {
	r := rand.New(rand.NewPCG(14, 3))
	several := 0
	for range 1500 {
		c := config(uint8(12+r.IntN(3)), uint32(200+r.IntN(20000)))
		fit := sizeOf(c) - headOf(c, c.Segments-1) - 39
		l := sizes(r, 1+r.IntN(200), 1+r.IntN(fit))
		numbers, e := pack.Plan(c, l)
		if e != api.OK || len(numbers) != len(l) {
			t.Fatalf("Plan of %v, %d frames: %d numbers, %d", c, len(l), len(numbers), e)
		}
		expectSteps(t, c, numbers)
		if numbers[len(l)-1] > 2 {
			several++
		}
	}
	if several < 200 {
		t.Errorf("just %d plans have several segments", several)
	}
}

// P14.3: the sums of each segment hold, and the first frame of the next one wouldn't have fitted.
func TestSegmentsHoldTheirFrames(t *testing.T) {
	r := rand.New(rand.NewPCG(14, 4))
	m := newModel()
	for range 500 {
		c := config(uint8(12+r.IntN(2)), 1000)
		l := sizes(r, 1+r.IntN(300), 1+r.IntN(3000))
		numbers, e := pack.Plan(c, l)
		if e != api.OK || len(numbers) != len(l) {
			t.Fatalf("Plan of %v, %d frames: %d numbers, %d", c, len(l), len(numbers), e)
		}
		for from := 0; from < len(l); {
			to := from
			for to < len(l) && numbers[to] == numbers[from] {
				to++
			}
			all := m.with(c, numbers[from], l[from:to])
			if all.Used+mostOf(all.Count) > sizeOf(c) {
				t.Errorf("frames %d to %d don't go into segment %d of %v", from, to, numbers[from], c)
			}
			if to < len(l) && m.fits(all, l[to]) {
				t.Errorf("frame %d would fit into segment %d of %v", to, numbers[from], c)
			}
			from = to
		}
	}
}

// anyRecords gives records that rise.
func anyRecords(r *rand.Rand, n, most int) []api.Record {
	var l []api.Record
	for i := range n {
		x := api.Record{Seq: uint64(i + 1), Key: strings.Repeat(string(rune('a'+r.IntN(26))), 1+r.IntN(40))}
		if x.Delete = r.IntN(5) == 0; !x.Delete {
			x.Value = strings.Repeat(string(rune(r.IntN(300))), r.IntN(most))
		}
		l = append(l, x)
	}
	return l
}

// P14.1, P14.2: the frames of records that are packed go into their segment with its head and its footer, whatever their sums are.
func TestPackedRecordsHaveRoom(t *testing.T) {
	r := rand.New(rand.NewPCG(14, 5))
	for range 60 {
		c := config(12, 400)
		frames, lengths, l := framesOf(t, anyRecords(r, 300, 1+r.IntN(1000)))
		numbers, e := pack.Plan(c, lengths)
		if e != api.OK || len(numbers) != len(l) {
			t.Fatalf("Plan of %d records: %d numbers, %d", len(l), len(numbers), e)
		}
		for number := range numbers[len(numbers)-1] + 1 {
			from, to := slices.Index(numbers, number), len(numbers)
			if next := slices.Index(numbers, number+1); next >= 0 {
				to = next
			}
			expectRoom(t, c, number, frames[from:to], l[from:to])
		}
	}
}

// framesOf gives the frames of records, and how many bytes each has.
func framesOf(t *testing.T, l []api.Record) (frames [][]byte, lengths []int, records []api.Record) {
	t.Helper()
	for _, x := range l {
		b, e := frame.PutRecord(x)
		if e != api.OK {
			t.Fatalf("PutRecord of %v: %d", x, e)
		}
		frames = append(frames, b)
		lengths = append(lengths, len(b))
	}
	return frames, lengths, l
}

// expectRoom: a segment's head, frames and footer have no more bytes than it.
func expectRoom(t *testing.T, c api.Config, number uint32, frames [][]byte, l []api.Record) {
	t.Helper()
	bytes, e := frame.PutHead(c, number)
	if e != api.OK {
		t.Fatalf("PutHead of %v, %d: %d", c, number, e)
	}
	var entries []table.Entry
	for i, x := range l {
		entries = append(entries, table.Entry{Hash: table.Hash(x.Key), At: uint32(len(bytes))})
		bytes = append(bytes, frames[i]...)
	}
	foot, e := footer.Put(footer.Footer{Used: uint32(len(bytes)), Table: table.Sorted(entries)})
	if e != api.OK || len(bytes)+len(foot) > sizeOf(c) {
		t.Errorf("segment %d of %v has %d records with %d bytes, and a footer of %d bytes, %d", number, c, len(l), len(bytes), len(foot), e)
	}
}
