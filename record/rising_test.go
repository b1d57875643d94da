package record_test

import (
	"cmp"
	"math"
	"math/rand/v2"
	"slices"
	"testing"

	"fascicle/api"
	"fascicle/record"
)

// expectRising holds Rising of a list against what it ought to tell.
func expectRising(t *testing.T, l []api.Record, want api.Errno) {
	t.Helper()
	if e := record.Rising(l); e != want {
		t.Errorf("of %d records: %d; it ought to be %d", len(l), e, want)
		for _, r := range l[:min(4, len(l))] {
			t.Logf("    %s", tell(r))
		}
	}
}

// withSeqs gives records that may be with these Seqs, each other one Deleted, their keys falling.
func withSeqs(seqs ...uint64) []api.Record {
	var l []api.Record
	for i, seq := range seqs {
		key := string(rune('z' - i%26))
		if i%2 == 1 {
			l = append(l, gone(seq, key))
		} else {
			l = append(l, put(seq, key, "v"))
		}
	}
	return l
}

// P7.3: no records, one, and some whose Seqs rise, are alike, and fall.
func TestRising(t *testing.T) {
	expectRising(t, nil, api.OK)
	expectRising(t, []api.Record{}, api.OK)
	for _, seq := range seqs {
		expectRising(t, withSeqs(seq), api.OK)
		expectRising(t, withSeqs(seq, seq), api.ErrOrder)
	}
	expectRising(t, withSeqs(seqs...), api.OK)
	for _, c := range []struct {
		seqs []uint64
		e    api.Errno
	}{
		{[]uint64{0, 1}, api.OK},
		{[]uint64{1, 0}, api.ErrOrder},
		{[]uint64{0, 1, 2, 3}, api.OK},
		{[]uint64{5, 7, 100}, api.OK},
		{[]uint64{0, 0, 1}, api.ErrOrder},
		{[]uint64{0, 1, 1}, api.ErrOrder},
		{[]uint64{0, 2, 1}, api.ErrOrder},
		{[]uint64{1, 3, 2, 4}, api.ErrOrder}, // the greatest one stands last all the same
		{[]uint64{5, 2, 3, 4}, api.ErrOrder},
		{[]uint64{0, math.MaxUint64}, api.OK},
		{[]uint64{math.MaxUint64 - 1, math.MaxUint64}, api.OK},
		{[]uint64{math.MaxUint64, 0}, api.ErrOrder},
		{[]uint64{math.MaxUint64, 0, 1}, api.ErrOrder},
		{[]uint64{math.MaxUint64, math.MaxUint64 - 1}, api.ErrOrder},
		{[]uint64{1<<63 - 1, 1 << 63}, api.OK},
		{[]uint64{1 << 63, 1<<63 - 1}, api.ErrOrder},
		{[]uint64{1<<32 - 1, 1 << 32}, api.OK},
		{[]uint64{1 << 32, 1}, api.ErrOrder},
	} {
		expectRising(t, withSeqs(c.seqs...), c.e)
	}
}

// P7.3: a single pair that doesn't rise, at each place of a long list.
func TestRisingAtEachPlace(t *testing.T) {
	for i := range 50 {
		var l []api.Record
		for j := range 50 {
			l = append(l, put(uint64(2*j+2), "k", ""))
		}
		expectRising(t, l, api.OK)
		for _, seq := range []uint64{uint64(2 * i), uint64(2*i + 1), uint64(2*i + 2), uint64(2*i + 3), uint64(2*i + 4)} {
			l[i].Seq = seq
			want := api.OK
			if seq == uint64(2*i) && i > 0 || seq == uint64(2*i+4) && i < 49 {
				want = api.ErrOrder
			}
			expectRising(t, l, want)
		}
		l[i].Seq, l[i].Key = uint64(2*i+2), ""
		expectRising(t, l, api.ErrForm)
	}
}

// P7.3: the keys' order doesn't matter, nor whether they are alike.
func TestRisingGoesBySeqsAlone(t *testing.T) {
	expectRising(t, []api.Record{put(1, "b", "z"), put(2, "a", "y"), gone(3, "a"), put(4, "a", "y"), gone(5, "zz")}, api.OK)
	expectRising(t, []api.Record{put(2, "a", "a"), put(1, "b", "b")}, api.ErrOrder)
	expectRising(t, []api.Record{put(1, "a", "a"), gone(1, "b")}, api.ErrOrder)
}

// wrongs are records that may not be, each with Check's error, with a Seq.
func wrongs(seq uint64) []checked {
	return []checked{
		{put(seq, "", ""), api.ErrForm},
		{put(seq, long(4097), ""), api.ErrLong},
		{api.Record{Delete: true, Seq: seq, Key: "a", Value: "b"}, api.ErrForm},
		{put(seq, "a", long(1<<20+1)), api.ErrLong},
	}
}

// P7.3: a record that may not be, alone, first, and last.
func TestRisingOfARecordThatMayNotBe(t *testing.T) {
	good := put(5, "a", "b")
	for _, w := range wrongs(5) {
		expectRising(t, []api.Record{w.record}, w.e)
		expectRising(t, []api.Record{put(4, "a", ""), w.record}, w.e)
		expectRising(t, []api.Record{w.record, put(6, "a", "")}, w.e)
		expectRising(t, []api.Record{put(4, "a", ""), w.record, put(6, "a", "")}, w.e)
		// Check's errors stand ahead of the order, whichever of two records may not be.
		expectRising(t, []api.Record{good, w.record}, w.e)
		expectRising(t, []api.Record{put(9, "a", ""), w.record}, w.e)
		expectRising(t, []api.Record{w.record, good}, w.e)
		expectRising(t, []api.Record{w.record, put(1, "a", "")}, w.e)
	}
}

// P7.3, R2: a record that may not be is told ahead of a Seq that doesn't rise, wherever either stands.
func TestRisingChecksAllAheadOfTheirOrder(t *testing.T) {
	expectRising(t, []api.Record{{Key: "a"}, {Key: "b"}, {}}, api.ErrForm)
	for _, w := range wrongs(7) {
		expectRising(t, append([]api.Record{put(6, "a", ""), w.record}, withSeqs(8, 8, 9)...), w.e)
		expectRising(t, append([]api.Record{put(6, "a", ""), w.record}, withSeqs(9, 8)...), w.e)
		expectRising(t, append(withSeqs(1, 1, 2), w.record), w.e)
		expectRising(t, append(withSeqs(2, 1), w.record), w.e)
		expectRising(t, append(withSeqs(8, 8), w.record), w.e)
		expectRising(t, append(append(withSeqs(2, 1), w.record), withSeqs(8, 9)...), w.e)
		expectRising(t, append(append(withSeqs(2, 1), w.record), withSeqs(1, 0)...), w.e)
	}
}

// P7.3: of several records that may not be the first one is told, with a Seq that doesn't rise ahead of them, between them, behind them, and without one.
func TestRisingTellsTheFirstRecordThatMayNotBe(t *testing.T) {
	for _, w := range wrongs(7) {
		for _, v := range wrongs(9) {
			expectRising(t, []api.Record{put(1, "a", ""), w.record, v.record}, w.e)
			expectRising(t, []api.Record{v.record, w.record}, v.e)
			expectRising(t, append(withSeqs(1, 1), w.record, v.record), w.e)
			expectRising(t, append(withSeqs(1, 1), v.record, w.record), v.e)
			between := append([]api.Record{w.record}, withSeqs(8, 8)...)
			expectRising(t, append(between, v.record), w.e)
			behind := append([]api.Record{w.record, v.record}, withSeqs(10, 10)...)
			expectRising(t, behind, w.e)
		}
	}
}

// P7.3, R2: one record that may not be and one pair that doesn't rise, at all places of a list.
func TestRisingOfBothErrorsAtAllPlaces(t *testing.T) {
	wrong := wrongs(0)
	for n := 2; n <= 6; n++ {
		for pair := 1; pair < n; pair++ {
			var l []api.Record
			for i := range n {
				l = append(l, put(uint64(3*i+3), "k", "v"))
			}
			l[pair].Seq = l[pair-1].Seq
			expectRising(t, l, api.ErrOrder)
			for i, r := range l {
				for _, w := range wrong {
					l[i] = w.record
					l[i].Seq = r.Seq
					expectRising(t, l, w.e)
				}
				l[i] = r
			}
		}
	}
}

// modelRising works out what Rising ought to tell of records, by who may be, then by their Seqs.
func modelRising(l []api.Record) api.Errno {
	if i := slices.IndexFunc(l, func(r api.Record) bool { return record.Check(r) != api.OK }); i >= 0 {
		return record.Check(l[i])
	}
	bySeq := func(a, b api.Record) int { return cmp.Compare(a.Seq, b.Seq) }
	alike := func(a, b api.Record) bool { return a.Seq == b.Seq }
	if !slices.IsSortedFunc(l, bySeq) || len(slices.CompactFunc(slices.Clone(l), alike)) < len(l) {
		return api.ErrOrder
	}
	return api.OK
}

// anyRecord gives a record with this Seq: mostly one that may be, now and then one of those that may not.
func anyRecord(r *rand.Rand, seq uint64, wrong []checked) api.Record {
	if r.IntN(8) == 0 {
		w := wrong[r.IntN(len(wrong))].record
		w.Seq = seq
		return w
	}
	if r.IntN(3) == 0 {
		return gone(seq, long(1+r.IntN(9)))
	}
	return put(seq, long(1+r.IntN(9)), long(r.IntN(3)))
}

// P7.3: any lists, held against a model; each answer comes up, both errors in one list, too.
func TestRisingOfAnyLists(t *testing.T) {
	r := rand.New(rand.NewPCG(2, 7))
	wrong := wrongs(0)
	times := map[api.Errno]int{}
	for range 20000 {
		var l []api.Record
		seq := uint64(20)
		for range r.IntN(8) {
			l = append(l, anyRecord(r, seq, wrong))
			seq += uint64(r.IntN(12)) // now and then none
			seq -= uint64(r.IntN(3))  // or it falls
		}
		want := modelRising(l)
		times[want]++
		expectRising(t, l, want)
	}
	for _, e := range []api.Errno{api.OK, api.ErrForm, api.ErrLong, api.ErrOrder} {
		if times[e] < 1000 {
			t.Errorf("%d of the lists had the answer %d", times[e], e)
		}
	}
}
