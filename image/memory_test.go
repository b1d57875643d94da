package image_test

import (
	"bytes"
	"slices"
	"testing"
	"unsafe"

	"fascicle/api"
	"fascicle/image"
)

// answers is all that is told of records.
type answers struct {
	bytes     []byte
	places    []image.Place
	segments  uint32
	e, ep, es api.Errno
}

// ask asks for all of them.
func ask(c api.Config, l []api.Record) answers {
	var x answers
	x.bytes, x.e = image.Encode(c, l)
	x.places, x.ep = image.Places(c, l)
	x.segments, x.es = image.Segments(c, l)
	return x
}

// expectAnswers holds all against what it ought to be.
func expectAnswers(t *testing.T, what string, got answers, want model) {
	t.Helper()
	if !bytes.Equal(got.bytes, want.bytes) || !slices.Equal(got.places, want.places) || got.segments != want.segments || got.e != want.e || got.ep != want.e || got.es != want.e {
		t.Errorf("%s: %s, %d places, %d segments, %d, %d, %d", what, differ(got.bytes, want.bytes), len(got.places), got.segments, got.e, got.ep, got.es)
	}
}

// asked are rows that have an image by this config, and rows that have none.
func asked() (api.Config, [][]api.Record) {
	l := rows()
	for _, records := range mayNot() {
		l = append(l, records, append(many(3), records...))
	}
	return config(12, 5), append(l, great(6), []api.Record{put(1, "k", of(5000))}, []api.Record{put(2, "k", ""), put(1, "k", "")})
}

// lent gives records whose texts stand in bytes that can be changed, and what changes them.
func lent(l []api.Record) (records []api.Record, change func()) {
	var all [][]byte
	text := func(s string) string {
		if s == "" {
			return ""
		}
		b := []byte(s)
		all = append(all, b)
		return unsafe.String(&b[0], len(b))
	}
	for _, r := range l {
		r.Key, r.Value = text(r.Key), text(r.Value)
		records = append(records, r)
	}
	return records, func() {
		for _, b := range all {
			for i := range b {
				b[i] ^= 85
			}
		}
	}
}

// P16.2, R4: records that are handed in aren't changed, their spare room neither, and the spare room doesn't count.
func TestRecordsAreNotChanged(t *testing.T) {
	c, all := asked()
	for _, l := range all {
		for _, behind := range [][]api.Record{{{}}, {put(0, "", "")}, {put(1<<63, "spare", "spare"), put(1<<63+1, "spare", "")}, great(8)} {
			room := slices.Concat(l, behind)
			mine := room[:len(l)]
			expectAnswers(t, "with others behind them", ask(c, mine), modelOf(c, l))
			image.Same(mine, mine)
			image.Same(mine, room)
			if !slices.Equal(room, slices.Concat(l, behind)) {
				t.Errorf("%s were changed, or what stands behind them", tell(l))
			}
		}
	}
}

// P16.2, R4: texts aren't changed.
func TestTextsAreNotChanged(t *testing.T) {
	c, all := asked()
	for _, l := range all {
		records, _ := lent(l)
		ask(c, records)
		image.Same(records, l)
		if !slices.Equal(records, l) {
			t.Errorf("%s were changed", tell(l))
		}
	}
}

// P16.2, R4: what was answered doesn't change when the records, their texts, or their list do; what is asked then is told anew.
func TestRecordsAreNotKept(t *testing.T) {
	c, all := asked()
	for _, l := range all {
		records, change := lent(l)
		first := ask(c, records)
		change()
		expectAnswers(t, "behind a change of texts", first, modelOf(c, l))
		clear(records)
		expectAnswers(t, "behind a change of records", first, modelOf(c, l))
		expectAnswers(t, "asked anew", ask(c, records), modelOf(c, records))
		for i := range records {
			records[i] = put(uint64(i), "another one", "")
		}
		expectAnswers(t, "behind a change of records", first, modelOf(c, l))
		expectAnswers(t, "asked anew", ask(c, records), modelOf(c, records))
	}
}

// P16.2, R4: an answer that is changed, or to which something is appended, changes neither another one nor what is told later.
func TestAnswersAreNewMemory(t *testing.T) {
	c, all := asked()
	for _, l := range all {
		want := modelOf(c, l)
		first, second := ask(c, l), ask(c, l)
		_ = append(first.bytes, bytes.Repeat([]byte{7}, 5000)...)
		_ = append(first.places, image.Place{Segment: 7, At: 7}, image.Place{Segment: 8, At: 8})
		expectAnswers(t, "what was appended to", first, want)
		expectAnswers(t, "behind what was appended to another one", second, want)
		changed := first.bytes[:cap(first.bytes)]
		for i := range changed {
			changed[i] ^= 85
		}
		for i := range first.places[:cap(first.places)] {
			first.places[:cap(first.places)][i] = image.Place{Segment: 85, At: 85}
		}
		expectAnswers(t, "behind a change of another one", second, want)
		expectAnswers(t, "asked again", ask(c, l), want)
	}
}

// R4: nil and empty lists are the same.
func TestNilAndEmptyAreTheSame(t *testing.T) {
	for _, c := range append(configs(), wrong()...) {
		for _, l := range [][]api.Record{nil, {}, great(5)[:0]} {
			expectAnswers(t, "of no records", ask(c, l), modelOf(c, nil))
		}
	}
}

// R5: what is told hangs on the arguments alone: between other calls, also ones that fail, it is the same.
func TestCallsTellTheSameAgain(t *testing.T) {
	c, all := asked()
	var first []answers
	for _, l := range all {
		first = append(first, ask(c, l))
	}
	for i := len(all) - 1; i >= 0; i-- {
		ask(config(13, 2), all[i])
		expectAnswers(t, "what was told at first", first[i], modelOf(c, all[i]))
		expectAnswers(t, "what is told again", ask(c, all[i]), modelOf(c, all[i]))
	}
}
