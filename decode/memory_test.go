package decode_test

import (
	"bytes"
	"slices"
	"testing"

	"fascicle/api"
	"fascicle/decode"
	"fascicle/segment"
)

// asked are bytes that are images, bytes that are segments, and bytes that are neither, by this config.
func asked(t *testing.T) (api.Config, [][]byte) {
	t.Helper()
	c, l := three()
	b := encode(t, c, l)
	changed := bytes.Clone(b)
	changed[5000] ^= 1
	falling, _ := laidOf(c, l[:5], l[:3])
	return c, [][]byte{
		nil, {}, b, encode(t, c, many(1)), encode(t, c, many(100)), encode(t, c, great(5)),
		b[:8192:8192], begun(c, 0).open(), falling,
		changed, b[:100:100], b[4096:], fill(4096, 255), fill(6*4096, 255),
	}
}

// P17.3, R4: bytes that are handed in aren't changed, their spare room neither; and the spare room doesn't count.
func TestBytesAreNotChanged(t *testing.T) {
	c, all := asked(t)
	_, l := three()
	last := lay(c, 3, []api.Record{put(1<<63+1, "k", "v")}).open()
	for _, b := range all {
		for _, behind := range [][]byte{{0}, fill(4096, 255), last, encode(t, c, l)} {
			room := slices.Concat(b, behind)
			mine := room[:len(b)]
			expectAnswers(t, "with others behind them", ask(c, mine), modelOf(c, b))
			if !bytes.Equal(room, slices.Concat(b, behind)) {
				t.Errorf("%d bytes were changed, or what stands behind them", len(b))
			}
		}
	}
}

// P17.3, R4: what was answered doesn't change when the bytes do; what is asked then is told anew.
func TestBytesAreNotKept(t *testing.T) {
	c, all := asked(t)
	for _, b := range all {
		want := modelOf(c, bytes.Clone(b))
		mine := bytes.Clone(b)
		first := ask(c, mine)
		for i := range mine {
			mine[i] ^= 85
		}
		expectAnswers(t, "behind a change of the bytes", first, want)
		expectAnswers(t, "asked anew", ask(c, mine), modelOf(c, mine))
		clear(mine)
		expectAnswers(t, "behind noughts", first, want)
		copy(mine, b)
		expectAnswers(t, "asked as at first", ask(c, mine), want)
	}
}

// spoil changes all that an answer's lists have, up to the end of their room.
func spoil(x answers) {
	records := func(l []api.Record) {
		for i := range l[:cap(l)] {
			l[:cap(l)][i] = put(85, "spoilt", "spoilt")
		}
	}
	records(x.l)
	for _, v := range x.views {
		records(v.Records)
		for i := range v.At[:cap(v.At)] {
			v.At[:cap(v.At)][i] = 85
		}
	}
	for i := range x.views[:cap(x.views)] {
		x.views[:cap(x.views)][i] = segment.View{Used: 85, Sealed: true}
	}
}

// P17.3, R4: an answer that is changed, up to the end of its room, changes neither another one nor what is told later.
func TestAnswersAreNewMemory(t *testing.T) {
	c, all := asked(t)
	for _, b := range all {
		want := modelOf(c, bytes.Clone(b))
		first, second := ask(c, b), ask(c, b)
		_ = append(first.l, put(7, "more", ""))
		_ = append(first.views, segment.View{Used: 7})
		expectAnswers(t, "what was appended to", first, want)
		expectAnswers(t, "behind what was appended to another one", second, want)
		spoil(first)
		expectAnswers(t, "behind a change of another one", second, want)
		expectAnswers(t, "asked again", ask(c, b), want)
	}
}

// P17.3, R4: the records of Decode and those of Views share nothing.
func TestRecordsAndViewsShareNothing(t *testing.T) {
	c, l := three()
	b := encode(t, c, l)
	want := modelOf(c, b)
	first := ask(c, b)
	spoil(answers{views: first.views})
	if !slices.Equal(first.l, l) {
		t.Errorf("behind a change of views they are %s", tell(first.l))
	}
	second := ask(c, b)
	spoil(answers{l: second.l})
	if !slices.EqualFunc(second.views, want.views, sameView) {
		t.Errorf("behind a change of records the views are %s", tellViews(second.views))
	}
}

// P17.3, R4: no two lists of one answer share any memory: what is appended to a view's records or places, or changed in them, changes no other view.
func TestViewsShareNothing(t *testing.T) {
	c, l := three()
	b := encode(t, c, l)
	want := modelOf(c, b).views
	for i := range want {
		views, e := decode.Views(c, b)
		if e != api.OK || len(views) != len(want) {
			t.Fatalf("Views tells %d, %d", len(views), e)
		}
		for n := range 20 {
			more := append(slices.Clone(l), l...)[:n]
			_ = append(views[i].Records, more...)
			_ = append(views[i].At, make([]uint32, n)...)
		}
		if !slices.EqualFunc(views, want, sameView) {
			t.Errorf("behind what was appended to view %d they are %s", i, tellViews(views))
		}
		spoil(answers{l: views[i].Records})
		for k := range views[i].At[:cap(views[i].At)] {
			views[i].At[:cap(views[i].At)][k] = 85
		}
		views[i] = want[i]
		if !slices.EqualFunc(views, want, sameView) {
			t.Errorf("behind a change of view %d they are %s", i, tellViews(views))
		}
	}
}

// R4: nil and empty lists are the same.
func TestNilAndEmptyAreTheSame(t *testing.T) {
	for _, c := range append(configs(), wrong()...) {
		for _, b := range [][]byte{nil, {}, fill(4096, 1)[:0]} {
			expectAnswers(t, "of no bytes", ask(c, b), modelOf(c, nil))
		}
	}
}

// R5: what is told hangs on the arguments alone: between other calls, also ones that fail, it is the same.
func TestCallsTellTheSameAgain(t *testing.T) {
	c, all := asked(t)
	var first []answers
	for _, b := range all {
		first = append(first, ask(c, b))
	}
	for i := len(all) - 1; i >= 0; i-- {
		ask(config(13, 2), all[i])
		ask(api.Config{}, all[i])
		expectAnswers(t, "what was told at first", first[i], modelOf(c, all[i]))
		expectAnswers(t, "what is told again", ask(c, all[i]), modelOf(c, all[i]))
	}
}
