package record_test

import (
	"bytes"
	"slices"
	"testing"

	"fascicle/api"
	"fascicle/record"
)

// change makes each byte of b another one, those in its spare room, too.
func change(b []byte) {
	b = b[:cap(b)]
	for i := range b {
		b[i] ^= 85
	}
}

// bodies are bytes that are read, and some that are wrong at several places.
func bodies() [][]byte {
	return [][]byte{
		written(put(1, "a", "b")),
		written(put(300, "abc", "")),
		written(put(1<<63, long(200), long(20000))),
		written(gone(300, "ab")),
		{2, 1, 1, 97, 2, 98},
		{3, 1, 1, 97, 0},
		{2, 128, 0},
		{7, 1},
		{},
	}
}

// P7.4, R4: bytes that are read aren't changed, their spare room neither, and the spare room doesn't count.
func TestBytesAreNotChanged(t *testing.T) {
	for _, b := range bodies() {
		for _, behind := range []string{"\x00", "\x01b\x00\x00", "\xff\xff\xff"} {
			all := append(bytes.Clone(b), behind...)
			was := bytes.Clone(all)
			got, gotE := record.Read(all[:len(b)])
			if want, e := toldOf(b); got != want || gotE != e {
				t.Errorf("with others behind them %s are read as %s, %d", begin(b), tell(got), gotE)
			}
			if !bytes.Equal(all, was) {
				t.Errorf("%s was changed to %s", begin(was), begin(all))
			}
		}
	}
}

// P7.4: a record shares nothing with the bytes that it was read of, and they aren't kept.
func TestReadAnswersNewMemory(t *testing.T) {
	for _, b := range bodies() {
		want, e := toldOf(b)
		first, firstE := record.Read(b)
		was := bytes.Clone(b)
		change(b)
		if first != want || firstE != e {
			t.Errorf("behind a change of %s what was read is %s, %d", begin(was), tell(first), firstE)
		}
		expectRead(t, b)
		change(b)
		expectRead(t, b)
	}
}

// P7.4: a body that is changed changes neither its record nor the next body.
func TestBodyAnswersNewMemory(t *testing.T) {
	for _, r := range []api.Record{put(1, "a", "b"), put(300, "abc", ""), gone(300, "ab"), put(1<<63, long(200), long(20000))} {
		was := api.Record{Delete: r.Delete, Seq: r.Seq, Key: string([]byte(r.Key)), Value: string([]byte(r.Value))}
		first, _ := record.Body(r)
		second, _ := record.Body(r)
		change(first)
		if r != was {
			t.Errorf("behind a change of its body %s is %s", tell(was), tell(r))
		}
		if !bytes.Equal(second, written(was)) {
			t.Errorf("behind a change of one body of %s the other one is %s", tell(was), begin(second))
		}
		if third, e := record.Body(r); e != api.OK || !bytes.Equal(third, written(was)) {
			t.Errorf("behind a change of a body of %s the next one is %s, %d", tell(was), begin(third), e)
		}
	}
}

// P7.4: a body stays what it is when its record becomes another one.
func TestBodyDoesNotKeepTheRecord(t *testing.T) {
	l := []api.Record{put(1, "a", "b")}
	b, _ := record.Body(l[0])
	l[0] = gone(9, "zz")
	if !bytes.Equal(b, []byte{2, 1, 1, 97, 1, 98}) {
		t.Errorf("behind a change of the record its body is %v", b)
	}
	if b, e := record.Body(l[0]); e != api.OK || !bytes.Equal(b, []byte{3, 9, 2, 122, 122}) {
		t.Errorf("of the record as it is now the body is %v, %d", b, e)
	}
}

// P7.4, R4: a list of records isn't changed, its spare room neither, nor kept; the spare room doesn't count.
func TestListIsNotChanged(t *testing.T) {
	for _, all := range [][]api.Record{
		withSeqs(1, 2, 3, 3, 2),
		withSeqs(2, 1, 3, 4, 5),
		append(withSeqs(1, 2, 3), put(4, "", ""), put(0, "", "")),
		append(withSeqs(1), put(2, "", ""), put(1, "a", ""), put(0, "a", ""), put(0, "a", "")),
	} {
		was := slices.Clone(all)
		for n := range len(all) + 1 {
			alone := record.Rising(slices.Clone(all[:n]))
			if e := record.Rising(all[:n]); e != alone {
				t.Errorf("of %d records with others behind them: %d; without them %d", n, e, alone)
			}
			if !slices.Equal(all, was) {
				t.Fatalf("a list of %d records was changed", n)
			}
		}
	}
	l := withSeqs(1, 2, 3)
	expectRising(t, l, api.OK)
	l[2].Seq = 2
	expectRising(t, l, api.ErrOrder)
	l[1].Seq = 0
	expectRising(t, l, api.ErrOrder)
	l[0].Key = ""
	expectRising(t, l, api.ErrForm)
}

// P7.4: records can be compared by ==: they are the same, just if all of their fields are.
func TestRecordsCanBeCompared(t *testing.T) {
	a, _ := record.Read([]byte{2, 1, 1, 97, 1, 98})
	b, _ := record.Read([]byte{2, 1, 1, 97, 1, 98})
	if a != b {
		t.Errorf("%s and %s aren't the same", tell(a), tell(b))
	}
	for _, other := range [][]byte{{2, 2, 1, 97, 1, 98}, {2, 1, 1, 99, 1, 98}, {2, 1, 1, 97, 1, 99}, {2, 1, 1, 97, 0}, {3, 1, 1, 97}} {
		if c, e := record.Read(other); c == a || e != api.OK {
			t.Errorf("%v: %s, %d, the same as %s", other, tell(c), e, tell(a))
		}
	}
}
