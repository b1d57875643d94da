package record_test

import (
	"math"
	"math/rand/v2"
	"testing"

	"fascicle/api"
	"fascicle/record"
)

// expectRising holds Rising of a list against what it ought to tell.
func expectRising(t *testing.T, l []api.Record, want api.Errno) {
	t.Helper()
	if e := record.Rising(l); e != want {
		t.Errorf("of %d records: %d; it ought to be %d", len(l), e, want)
		for _, r := range l[:min(4, len(l))] {
			t.Logf("    %s", tell(r))
		}
	}
}

// withSeqs gives records that may be with these Seqs, each other one Deleted, their keys falling.
func withSeqs(seqs ...uint64) []api.Record {
	var l []api.Record
	for i, seq := range seqs {
		key := string(rune('z' - i%26))
		if i%2 == 1 {
			l = append(l, gone(seq, key))
		} else {
			l = append(l, put(seq, key, "v"))
		}
	}
	return l
}

// P7.3: no records, one, and some whose Seqs rise, are alike, and fall.
func TestRising(t *testing.T) {
	expectRising(t, nil, api.OK)
	expectRising(t, []api.Record{}, api.OK)
	for _, seq := range seqs {
		expectRising(t, withSeqs(seq), api.OK)
		expectRising(t, withSeqs(seq, seq), api.ErrOrder)
	}
	expectRising(t, withSeqs(seqs...), api.OK)
	for _, c := range []struct {
		seqs []uint64
		e    api.Errno
	}{
		{[]uint64{0, 1}, api.OK},
		{[]uint64{1, 0}, api.ErrOrder},
		{[]uint64{0, 1, 2, 3}, api.OK},
		{[]uint64{5, 7, 100}, api.OK},
		{[]uint64{0, 0, 1}, api.ErrOrder},
		{[]uint64{0, 1, 1}, api.ErrOrder},
		{[]uint64{0, 2, 1}, api.ErrOrder},
		{[]uint64{1, 3, 2, 4}, api.ErrOrder}, // the greatest one stands last all the same
		{[]uint64{5, 2, 3, 4}, api.ErrOrder},
		{[]uint64{0, math.MaxUint64}, api.OK},
		{[]uint64{math.MaxUint64 - 1, math.MaxUint64}, api.OK},
		{[]uint64{math.MaxUint64, 0}, api.ErrOrder},
		{[]uint64{math.MaxUint64, 0, 1}, api.ErrOrder},
		{[]uint64{math.MaxUint64, math.MaxUint64 - 1}, api.ErrOrder},
		{[]uint64{1<<63 - 1, 1 << 63}, api.OK},
		{[]uint64{1 << 63, 1<<63 - 1}, api.ErrOrder},
		{[]uint64{1<<32 - 1, 1 << 32}, api.OK},
		{[]uint64{1 << 32, 1}, api.ErrOrder},
	} {
		expectRising(t, withSeqs(c.seqs...), c.e)
	}
}

// P7.3: a single pair that doesn't rise, at each place of a long list.
func TestRisingAtEachPlace(t *testing.T) {
	for i := range 50 {
		var l []api.Record
		for j := range 50 {
			l = append(l, put(uint64(2*j+2), "k", ""))
		}
		expectRising(t, l, api.OK)
		for _, seq := range []uint64{uint64(2 * i), uint64(2*i + 1), uint64(2*i + 2), uint64(2*i + 3), uint64(2*i + 4)} {
			l[i].Seq = seq
			want := api.OK
			if seq == uint64(2*i) && i > 0 || seq == uint64(2*i+4) && i < 49 {
				want = api.ErrOrder
			}
			expectRising(t, l, want)
		}
		l[i].Seq, l[i].Key = uint64(2*i+2), ""
		expectRising(t, l, api.ErrForm)
	}
}

// P7.3: the keys' order doesn't matter, nor whether they are alike.
func TestRisingGoesBySeqsAlone(t *testing.T) {
	expectRising(t, []api.Record{put(1, "b", "z"), put(2, "a", "y"), gone(3, "a"), put(4, "a", "y"), gone(5, "zz")}, api.OK)
	expectRising(t, []api.Record{put(2, "a", "a"), put(1, "b", "b")}, api.ErrOrder)
	expectRising(t, []api.Record{put(1, "a", "a"), gone(1, "b")}, api.ErrOrder)
}

// wrongs are records that may not be, each with Check's error, with a Seq.
func wrongs(seq uint64) []checked {
	return []checked{
		{put(seq, "", ""), api.ErrForm},
		{put(seq, long(4097), ""), api.ErrLong},
		{api.Record{Delete: true, Seq: seq, Key: "a", Value: "b"}, api.ErrForm},
		{put(seq, "a", long(1<<20+1)), api.ErrLong},
	}
}

// P7.3: a record that may not be, alone, first, and last.
func TestRisingOfARecordThatMayNotBe(t *testing.T) {
	good := put(5, "a", "b")
	for _, w := range wrongs(5) {
		expectRising(t, []api.Record{w.record}, w.e)
		expectRising(t, []api.Record{put(4, "a", ""), w.record}, w.e)
		expectRising(t, []api.Record{w.record, put(6, "a", "")}, w.e)
		expectRising(t, []api.Record{put(4, "a", ""), w.record, put(6, "a", "")}, w.e)
		// Of one record Check's errors stand ahead of its order.
		expectRising(t, []api.Record{good, w.record}, w.e)
		expectRising(t, []api.Record{put(9, "a", ""), w.record}, w.e)
		// The record ahead is asked first.
		expectRising(t, []api.Record{w.record, good}, w.e)
		expectRising(t, []api.Record{w.record, put(1, "a", "")}, w.e)
	}
}

// P7.3: record by record: whichever stands first is told, a record that may not be, or a Seq that doesn't rise.
func TestRisingGoesRecordByRecord(t *testing.T) {
	for _, w := range wrongs(7) {
		ahead := append([]api.Record{put(6, "a", ""), w.record}, withSeqs(8, 8, 9)...)
		expectRising(t, ahead, w.e)
		behind := append(withSeqs(1, 1, 2), w.record)
		expectRising(t, behind, api.ErrOrder)
		expectRising(t, append(withSeqs(2, 1), w.record), api.ErrOrder)
		for _, v := range wrongs(9) {
			expectRising(t, []api.Record{put(1, "a", ""), w.record, v.record}, w.e)
			expectRising(t, []api.Record{v.record, w.record}, v.e)
		}
	}
}

// P7.3: any lists, held against each record and each pair, one behind the other.
func TestRisingOfAnyLists(t *testing.T) {
	r := rand.New(rand.NewPCG(2, 7))
	for range 20000 {
		var l []api.Record
		seq, want := uint64(0), api.OK
		for i := range r.IntN(8) {
			step := uint64(r.IntN(5)) // now and then none
			next := api.Record{Delete: r.IntN(3) == 0, Seq: seq + step, Key: long(r.IntN(9))}
			switch {
			case want != api.OK:
			case next.Key == "":
				want = api.ErrForm
			case step == 0 && i > 0:
				want = api.ErrOrder
			}
			l, seq = append(l, next), next.Seq
		}
		expectRising(t, l, want)
	}
}
