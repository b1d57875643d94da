package record_test

import (
	"math"
	"strings"
	"testing"

	"fascicle/api"
	"fascicle/record"
)

// seqs are Seqs at the ends of how many bytes they have.
var seqs = []uint64{0, 1, 127, 128, 300, 16383, 16384, 1<<56 - 1, 1 << 56, 1<<63 - 1, 1 << 63, math.MaxUint64 - 1, math.MaxUint64}

// put gives a record with a value.
func put(seq uint64, key, value string) api.Record {
	return api.Record{Seq: seq, Key: key, Value: value}
}

// gone gives a record that is Deleted.
func gone(seq uint64, key string) api.Record {
	return api.Record{Delete: true, Seq: seq, Key: key}
}

// long gives a text of so many bytes.
func long(n int) string {
	return strings.Repeat("x", n)
}

// checked is a record, and whether it may be.
type checked struct {
	record api.Record
	e      api.Errno
}

// edges are records with keys and values of lengths at their bounds, all with all, of each Seq.
func edges(seq uint64) []checked {
	keys := []string{"", "k", long(4096), long(4097)}
	values := []string{"", "v", long(1 << 20), long(1<<20 + 1)}
	told := map[bool][4][4]api.Errno{ // by key, then by value
		false: {
			{api.ErrForm, api.ErrForm, api.ErrForm, api.ErrForm},
			{api.OK, api.OK, api.OK, api.ErrLong},
			{api.OK, api.OK, api.OK, api.ErrLong},
			{api.ErrLong, api.ErrLong, api.ErrLong, api.ErrLong},
		},
		true: {
			{api.ErrForm, api.ErrForm, api.ErrForm, api.ErrForm},
			{api.OK, api.ErrForm, api.ErrForm, api.ErrForm},
			{api.OK, api.ErrForm, api.ErrForm, api.ErrForm},
			{api.ErrLong, api.ErrLong, api.ErrLong, api.ErrLong},
		},
	}
	var l []checked
	for _, deleted := range []bool{false, true} {
		for i, key := range keys {
			for j, value := range values {
				l = append(l, checked{api.Record{Delete: deleted, Seq: seq, Key: key, Value: value}, told[deleted][i][j]})
			}
		}
	}
	return l
}

// P7.1: Check of keys and values at their bounds, and of records with two faults or three: the first one in the chapter's order.
func TestCheck(t *testing.T) {
	for _, seq := range seqs {
		for _, c := range edges(seq) {
			if e := record.Check(c.record); e != c.e {
				t.Errorf("%s: %d; it ought to be %d", tell(c.record), e, c.e)
			}
		}
	}
}

// P7.1: a text's length is how many bytes it has, whatever they are.
func TestCheckCountsBytes(t *testing.T) {
	two, three := "\u00e9", "\u4e16" // runes of so many bytes
	for _, c := range []checked{
		{put(1, strings.Repeat(two, 2048), ""), api.OK},
		{put(1, strings.Repeat(two, 2048)+"k", ""), api.ErrLong},
		{put(1, strings.Repeat(three, 1365)+"k", ""), api.OK},
		{put(1, strings.Repeat(three, 1366), ""), api.ErrLong},
		{put(1, "k", strings.Repeat(two, 1<<19)), api.OK},
		{put(1, "k", strings.Repeat(two, 1<<19)+"v"), api.ErrLong},
		{put(1, "\x00", "\x00\xff\x80"), api.OK},
		{put(1, strings.Repeat("\x00", 4097), ""), api.ErrLong},
		{put(1, "\xff\xfe", strings.Repeat("\x80", 1<<20)), api.OK},
		{gone(1, "\x00"), api.OK},
		{gone(1, strings.Repeat(two, 2049)), api.ErrLong},
		{api.Record{Delete: true, Seq: 1, Key: "k", Value: "\x00"}, api.ErrForm},
		{api.Record{}, api.ErrForm},
		{api.Record{Delete: true}, api.ErrForm},
	} {
		if e := record.Check(c.record); e != c.e {
			t.Errorf("%s: %d; it ought to be %d", tell(c.record), e, c.e)
		}
	}
}

// P7.1: every length of a key next to its bounds, and many between them.
func TestCheckOfEachLength(t *testing.T) {
	for n := 1; n <= 4200; n++ {
		want := api.OK
		if n > 4096 {
			want = api.ErrLong
		}
		for _, r := range []api.Record{put(7, long(n), "v"), gone(7, long(n))} {
			if e := record.Check(r); e != want {
				t.Fatalf("%s: %d; it ought to be %d", tell(r), e, want)
			}
		}
	}
}
