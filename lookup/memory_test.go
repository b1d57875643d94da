package lookup_test

import (
	"bytes"
	"slices"
	"testing"

	"fascicle/api"
	"fascicle/lookup"
)

// asked are bytes that are images, bytes that are segments, and bytes that are neither, by this config.
func asked(t *testing.T) (api.Config, [][]byte) {
	t.Helper()
	c, l := three()
	b := encode(t, c, l)
	changed := bytes.Clone(b)
	changed[5000] ^= 1
	return c, [][]byte{
		nil, {}, b, encode(t, c, many(1)), encode(t, c, again(100, 7)), encode(t, c, great(5)),
		b[:8192:8192], changed, b[:100:100], b[4096:], fill(4096, 255), fill(6*4096, 255), slices.Concat(b[:4096], b[8192:]),
	}
}

// wellKnown are keys of which some are in most of them.
func wellKnown() []string {
	return append(few(), "key 0", "key 1", "key 6", "k0", "k4", "k6")
}

// P19.2, R4: bytes that are handed in aren't changed, their spare room neither; and the spare room doesn't count.
func TestBytesAreNotChanged(t *testing.T) {
	c, all := asked(t)
	_, l := three()
	keys := wellKnown()
	for _, b := range all {
		want := ask(c, slices.Clip(bytes.Clone(b)), keys)
		for _, behind := range [][]byte{{0}, fill(4096, 255), fill(4096, 0), encode(t, c, l)} {
			room := slices.Concat(b, behind)
			expectAnswers(t, "with others behind them", keys, ask(c, room[:len(b)], keys), want)
			if !bytes.Equal(room, slices.Concat(b, behind)) {
				t.Errorf("%d bytes were changed, or what stands behind them", len(b))
			}
		}
	}
}

// P19.2, R4: no call alone changes the bytes, either: two of them could undo what each did.
func TestNoCallAloneChangesBytes(t *testing.T) {
	c, all := asked(t)
	for _, b := range all {
		mine := bytes.Clone(b)
		unchanged := func(what string) {
			if !bytes.Equal(mine, b) {
				t.Fatalf("%s changed %d bytes that were handed in", what, len(b))
			}
		}
		for _, key := range wellKnown() {
			lookup.Get(c, mine, key)
			unchanged("Get")
			lookup.Look(c, mine, key)
			unchanged("Look")
		}
		lookup.All(c, mine)
		unchanged("All")
	}
}

// P19.2, R4: what was answered doesn't change when the bytes do; what is asked then is told anew.
func TestBytesAreNotKept(t *testing.T) {
	c, l := three()
	other := slices.Clone(l)
	for i := range other {
		other[i].Key, other[i].Value, other[i].Delete = l[len(l)-1-i].Key, l[len(l)-1-i].Value, l[len(l)-1-i].Delete
	}
	keys := keysOf(l)
	for n := range len(l) + 1 {
		b := encode(t, c, l[:n])
		want := modelOf(t, c, l[:n], keys)
		mine := append(bytes.Clone(b), fill(5*4096-len(b), 0)...)
		first := ask(c, mine[:len(b)], keys)
		for i := range mine {
			mine[i] ^= 85
		}
		expectAnswers(t, "behind a change of the bytes", keys, first, want)
		clear(mine)
		expectAnswers(t, "behind noughts", keys, first, want)
		anew := encode(t, c, other)
		copy(mine, anew)
		expectAnswers(t, "behind another image's bytes", keys, first, want)
		expectAnswers(t, "asked anew", keys, ask(c, mine[:len(anew)], keys), modelOf(t, c, other, keys))
		copy(mine, b)
		expectAnswers(t, "asked as at first", keys, ask(c, mine[:len(b)], keys), want)
	}
}

// P19.2, R4: a list that is changed, up to the end of its room, or that something is appended to, changes neither the bytes, nor another answer, nor what is told later.
func TestAnswersAreNewMemory(t *testing.T) {
	c, all := asked(t)
	keys := wellKnown()
	for _, b := range all {
		was := bytes.Clone(b)
		want := ask(c, was, keys)
		first, second := ask(c, b, keys), ask(c, b, keys)
		_ = append(first.all, put(7, "more", ""))
		expectAnswers(t, "what was appended to", keys, first, want)
		for i := range first.all[:cap(first.all)] {
			first.all[:cap(first.all)][i] = put(85, "spoilt", "spoilt")
		}
		expectAnswers(t, "behind a change of another one", keys, second, want)
		expectAnswers(t, "asked again", keys, ask(c, b, keys), want)
		if !bytes.Equal(b, was) {
			t.Errorf("%d bytes were changed by a change of an answer", len(b))
		}
	}
}

// R4: nil and empty bytes are the same.
func TestNilAndEmptyAreTheSame(t *testing.T) {
	keys := wellKnown()
	for _, c := range append(configs(), wrong()...) {
		want := ask(c, nil, keys)
		for _, b := range [][]byte{{}, fill(4096, 1)[:0], fill(4096, 0)[4096:]} {
			expectAnswers(t, "of no bytes", keys, ask(c, b, keys), want)
		}
	}
}

// R5: what is told hangs on the arguments alone, not on a map's order or on calls between: asked again and again it is the same.
func TestCallsTellTheSameAgain(t *testing.T) {
	c, all := asked(t)
	keys := wellKnown()
	var first []answers
	for _, b := range all {
		first = append(first, ask(c, b, keys))
	}
	for range 10 {
		for i := len(all) - 1; i >= 0; i-- {
			ask(config(13, 2), all[i], keys)
			ask(api.Config{}, all[i], keys)
			expectAnswers(t, "what is told again", keys, ask(c, all[i], keys), first[i])
		}
	}
}

// R5: Costs can be compared, and have just these fields, in this order.
func TestCostsCanBeCompared(t *testing.T) {
	a, b := lookup.Cost{1, 2, 3}, lookup.Cost{Segments: 1, Footers: 2, Frames: 3}
	if a != b || a == (lookup.Cost{1, 2, 4}) {
		t.Errorf("%v, %v", a, b)
	}
}
