package record_test

import (
	"bytes"
	"encoding/binary"
	"fmt"
	"math"
	"testing"

	"fascicle/api"
	"fascicle/record"
)

// tell gives a record as a short text.
func tell(r api.Record) string {
	return fmt.Sprintf("{Delete %t, Seq %d, Key %.9q (%d bytes), Value %.9q (%d bytes)}", r.Delete, r.Seq, r.Key, len(r.Key), r.Value, len(r.Value))
}

// begin gives the first ones of bytes, and how many there are, as a short text.
func begin(b []byte) string {
	return fmt.Sprintf("%v (%d bytes)", b[:min(30, len(b))], len(b))
}

// written works out the body of a record that may be.
func written(r api.Record) []byte {
	first := byte(2)
	if r.Delete {
		first = 3
	}
	b := binary.AppendUvarint([]byte{first}, r.Seq)
	b = append(binary.AppendUvarint(b, uint64(len(r.Key))), r.Key...)
	if r.Delete {
		return b
	}
	return append(binary.AppendUvarint(b, uint64(len(r.Value))), r.Value...)
}

// samples are records that may be, with lengths at the ends of how many bytes their numbers have.
func samples() []api.Record {
	var l []api.Record
	for _, seq := range seqs {
		for _, n := range []int{1, 2, 126, 127, 128, 129, 300} {
			l = append(l, gone(seq, long(n)), put(seq, long(n), ""), put(seq, "k", long(n)), put(seq, long(n), long(n)))
		}
	}
	for _, seq := range []uint64{0, 300, math.MaxUint64} {
		for _, n := range []int{1, 4095, 4096} {
			l = append(l, gone(seq, long(n)))
			for _, m := range []int{0, 16383, 16384, 1<<20 - 1, 1 << 20} {
				l = append(l, put(seq, long(n), long(m)))
			}
		}
	}
	return append(l,
		put(5, "\x00", "\x00\x00"),
		put(5, "\xff\xfe\x80", "\xed\xa0\x80\x00"),
		put(5, "\u00e9\u4e16", "\U0001f600"),
		put(2, "\x02\x01\x01", "\x03\x01\x01"),
		gone(3, "\x00\xff"))
}

// P7.1: the bodies of the chapter's example and of others, byte for byte.
func TestBodyExamples(t *testing.T) {
	for _, c := range []struct {
		record api.Record
		body   []byte
	}{
		{put(1, "a", "b"), []byte{2, 1, 1, 97, 1, 98}}, // the chapter's example
		{put(1, "a", ""), []byte{2, 1, 1, 97, 0}},
		{gone(1, "a"), []byte{3, 1, 1, 97}},
		{put(0, "ab", "cde"), []byte{2, 0, 2, 97, 98, 3, 99, 100, 101}},
		{put(127, "a", "b"), []byte{2, 127, 1, 97, 1, 98}},
		{put(128, "a", "b"), []byte{2, 128, 1, 1, 97, 1, 98}},
		{gone(300, "ab"), []byte{3, 172, 2, 2, 97, 98}},
		{gone(math.MaxUint64, "\x00"), []byte{3, 255, 255, 255, 255, 255, 255, 255, 255, 255, 1, 1, 0}},
	} {
		b, e := record.Body(c.record)
		if !bytes.Equal(b, c.body) || e != api.OK {
			t.Errorf("%s: %v, %d; it ought to be %v", tell(c.record), b, e, c.body)
		}
	}
	if record.Put != 2 || record.Gone != 3 {
		t.Errorf("the kinds are %d and %d", record.Put, record.Gone)
	}
}

// P7.1: the body of each record that may be; Size is its length.
func TestBody(t *testing.T) {
	for _, r := range samples() {
		b, e := record.Body(r)
		if want := written(r); !bytes.Equal(b, want) || e != api.OK {
			t.Errorf("%s: %d bytes, %d; it ought to be others, %d of them", tell(r), len(b), e, len(want))
		}
		if n := record.Size(r); n != len(written(r)) {
			t.Errorf("%s: Size is %d; it ought to be %d", tell(r), n, len(written(r)))
		}
	}
}

// P7.1: the Sizes of some, told by the chapter's sums.
func TestSize(t *testing.T) {
	for _, c := range []struct {
		record api.Record
		size   int
	}{
		{put(1, "a", "b"), 6},
		{put(1, "a", ""), 5},
		{gone(1, "a"), 4},
		{put(0, "a", "b"), 6},
		{put(127, "a", "b"), 6},
		{put(128, "a", "b"), 7},
		{put(math.MaxUint64, "a", "b"), 15},
		{gone(math.MaxUint64, "a"), 13},
		{put(1, long(127), ""), 1 + 1 + 128 + 1},
		{put(1, long(128), ""), 1 + 1 + 130 + 1},
		{gone(1, long(4096)), 1 + 1 + 4098},
		{put(1, "a", long(127)), 1 + 1 + 2 + 128},
		{put(1, "a", long(128)), 1 + 1 + 2 + 130},
		{put(1, "a", long(16384)), 1 + 1 + 2 + 16387},
		{put(math.MaxUint64, long(4096), long(1<<20)), 1 + 10 + 4098 + 1<<20 + 3},
	} {
		if n := record.Size(c.record); n != c.size {
			t.Errorf("%s: %d; it ought to be %d", tell(c.record), n, c.size)
		}
	}
}

// P7.1, R3: of a record that may not be Check's errors, no body, and 0 as its Size; of one that may be its body and its length.
func TestBodyAndSizeAtTheEdges(t *testing.T) {
	for _, seq := range []uint64{0, 127, 128, math.MaxUint64} {
		for _, c := range edges(seq) {
			b, e := record.Body(c.record)
			n := record.Size(c.record)
			if e != c.e {
				t.Errorf("%s: Body told %d; it ought to be %d", tell(c.record), e, c.e)
			}
			if c.e != api.OK && (b != nil || n != 0) {
				t.Errorf("%s: a body of %d bytes, and a Size of %d, beside an error", tell(c.record), len(b), n)
			}
			if c.e == api.OK && (n != len(b) || !bytes.Equal(b, written(c.record))) {
				t.Errorf("%s: a body of %d bytes, a Size of %d; it ought to be %d", tell(c.record), len(b), n, len(written(c.record)))
			}
		}
	}
}
