package elder_test

import (
	"bytes"
	"slices"
	"testing"

	"fascicle/api"
	"fascicle/elder"
)

// change makes each byte of b another one, those in its spare room, too.
func change(b []byte) {
	b = b[:cap(b)]
	for i := range b {
		b[i] ^= 85
	}
}

// some are bytes that are rows of pairs, and some that are wrong at several places.
func some() [][]byte {
	var l [][]byte
	for _, pairs := range short() {
		b := row(pairs)
		l = append(l, b, join(b, []byte{0}), join(b, make([]byte, 8)), join(b, bytes.Repeat([]byte{255}, 9)))
		if len(b) > 0 {
			l = append(l, b[:len(b)-1:len(b)-1], join(b[:len(b)-1], []byte{b[len(b)-1] + 1}))
		}
	}
	return append(l, row(samples()[:30]))
}

// told is all that is answered of bytes.
type told struct {
	first       elder.Pair
	n           int
	e           api.Errno
	pairs, size int
	allE        api.Errno
	put         string
	putE        api.Errno
}

// ask asks all calls of bytes.
func ask(b []byte) told {
	var x told
	x.first, x.n, x.e = elder.Get(b)
	l, size, e := elder.GetAll(b)
	x.pairs, x.size, x.allE = len(l), size, e
	put, e := elder.PutAll(l)
	x.put, x.putE = string(put), e
	return x
}

// P10.4, R4: bytes that are handed in aren't changed, their spare room neither, and the spare room doesn't count.
func TestBytesAreNotChanged(t *testing.T) {
	for _, b := range some() {
		want := ask(bytes.Clone(b))
		for _, behind := range behinds() {
			all := join(b, behind)
			was := bytes.Clone(all)
			if ask(all[:len(b)]) != want {
				t.Errorf("with others behind it something else is told of %s", begin(b))
			}
			if !bytes.Equal(all, was) {
				t.Errorf("%s was changed to %s, or what stands behind it", begin(was), begin(all))
			}
		}
	}
}

// P10.4, R4: pairs that were got stay what they are when the bytes are changed, which aren't kept.
func TestBytesAreNotKept(t *testing.T) {
	for _, b := range some() {
		p, n, e := elder.Get(b)
		l, size, allE := elder.GetAll(b)
		was := bytes.Clone(b)
		change(b)
		if want, wantN, wantE := toldOf(was); p != want || n != wantN || e != wantE {
			t.Errorf("behind a change of %s the pair that was got is %s", begin(was), tell(p))
		}
		if want, wantN, wantE := allOf(was); !slices.Equal(l, want) || size != wantN || allE != wantE {
			t.Errorf("behind a change of %s the pairs that were got are others", begin(was))
		}
		expectGet(t, b)
		expectBack(t, b)
		change(b)
		expectGet(t, b)
		expectBack(t, b)
	}
}

// P10.4, R4: the bytes that Put and PutAll answer share nothing with another answer.
func TestBytesAreNewMemory(t *testing.T) {
	for _, l := range append(short(), samples()[:30]) {
		first, _ := elder.PutAll(l)
		second, _ := elder.PutAll(l)
		_ = append(first, "more"...)
		change(first)
		third, e := elder.PutAll(l)
		if want := row(l); e != api.OK || !bytes.Equal(second, want) || !bytes.Equal(third, want) {
			t.Errorf("a change of the bytes of %d pairs changed another answer: %s, %s", len(l), begin(second), begin(third))
		}
		for _, p := range l {
			one, _ := elder.Put(p)
			other, _ := elder.Put(p)
			_ = append(one, "more"...)
			change(one)
			again, e := elder.Put(p)
			if want := written(p); e != api.OK || !bytes.Equal(other, want) || !bytes.Equal(again, want) {
				t.Errorf("a change of the bytes of %s changed another answer: %s, %s", tell(p), begin(other), begin(again))
			}
		}
	}
}

// P10.4, R4: a list of pairs that is handed in isn't changed, its spare room neither; the spare room doesn't count.
func TestPairsAreNotChanged(t *testing.T) {
	all := []elder.Pair{pair("a", "1"), pair("bc", ""), pair("a", "2"), pair("", ""), pair(long(4097), ""), pair("k", "")}
	was := slices.Clone(all)
	for n := range len(all) + 1 {
		alone, aloneE := elder.PutAll(slices.Clone(all[:n]))
		b, e := elder.PutAll(all[:n])
		if !bytes.Equal(b, alone) || e != aloneE {
			t.Errorf("of %d pairs with others behind them: %s, %d; without them %s, %d", n, begin(b), e, begin(alone), aloneE)
		}
		if !slices.Equal(all, was) {
			t.Fatalf("a list of %d pairs was changed", n)
		}
	}
}

// P10.4, R4: bytes stay what they are when the list becomes another one, which isn't kept.
func TestPairsAreNotKept(t *testing.T) {
	l := []elder.Pair{pair("a", ""), pair("bc", "")}
	was := row(l)
	b, _ := elder.PutAll(l)
	l[0], l[1] = pair("zz", "y"), pair("", "")
	if !bytes.Equal(b, was) {
		t.Errorf("behind a change of the list its bytes are %v; they were %v", b, was)
	}
	expectPutAll(t, l, nil, api.ErrForm)
	expectPutAll(t, l[:1], written(l[0]), api.OK)
}

// P10.4, R4: a list that was got shares nothing with another one: what is written into one of them, or appended to it, isn't seen in the other one.
func TestListsAreNewMemory(t *testing.T) {
	for _, b := range some() {
		want, _, _ := allOf(b)
		first, _, _ := elder.GetAll(b)
		second, _, _ := elder.GetAll(b)
		_ = append(first, pair("more", "of it"))
		for i := range first {
			first[i] = pair("another", "one")
		}
		third, _, _ := elder.GetAll(b)
		if !slices.Equal(second, want) || !slices.Equal(third, want) {
			t.Errorf("a change of the pairs of %s changed another answer", begin(b))
		}
		if more := append(second, pair("x", "")); !slices.Equal(more[:len(want)], want) || !slices.Equal(third, want) {
			t.Errorf("what was appended to the pairs of %s changed them, or another answer", begin(b))
		}
	}
}

// P10.4: pairs can be compared by ==: they are the same, just if both of their fields are.
func TestPairsCanBeCompared(t *testing.T) {
	a, _, _ := elder.Get(written(pair("a", "b")))
	b, _, _ := elder.Get(written(pair("a", "b")))
	if a != b {
		t.Errorf("%s and %s aren't the same", tell(a), tell(b))
	}
	for _, other := range []elder.Pair{pair("a", ""), pair("a", "c"), pair("b", "b"), pair("ab", ""), pair("ab", "b")} {
		if c, _, e := elder.Get(written(other)); c == a || e != api.OK {
			t.Errorf("%s, %d, the same as %s", tell(c), e, tell(a))
		}
	}
	if (elder.Pair{"a", "b"}) != a { // just these fields, in this order
		t.Errorf("%s isn't the pair of a and b", tell(a))
	}
}

// R5: what is answered hangs on the arguments alone: between other calls it is the same.
func TestCallsTellTheSameAgain(t *testing.T) {
	l := some()
	var first []told
	for _, b := range l {
		first = append(first, ask(b))
	}
	for i := len(l) - 1; i >= 0; i-- {
		if ask(l[i]) != first[i] {
			t.Errorf("of %s something else is told the second time", begin(l[i]))
		}
	}
}
