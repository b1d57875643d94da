package frame_test

import (
	"bytes"
	"math"
	"strings"
	"testing"

	"fascicle/api"
	"fascicle/frame"
)

// expectNoRecord holds GetRecord of the chunk of a body against the error that it ought to tell; beside it there is no record.
func expectNoRecord(t *testing.T, body []byte, want api.Errno) {
	t.Helper()
	if r, e := frame.GetRecord(chunkOf(body)); e != want || r != (api.Record{}) {
		t.Errorf("GetRecord of the chunk of %s: %v, %d; it ought to be error %d", begin(body), r, e, want)
	}
}

// P9.2: the frame of a record's body, and the record of its chunk.
func TestPutRecord(t *testing.T) {
	for _, r := range records() {
		b, e := frame.PutRecord(r)
		if e != api.OK || !bytes.Equal(b, frameOf(recordBody(r))) {
			t.Errorf("PutRecord: %s, %d; it ought to be %s", begin(b), e, begin(frameOf(recordBody(r))))
			continue
		}
		if got, e := frame.GetRecord(b[:len(b)-1]); e != api.OK || got != r {
			t.Errorf("GetRecord of the chunk %s: another record, %d", begin(b), e)
		}
		expectNone(t, b, api.ErrForm) // with its nought it is no chunk
	}
	b, e := frame.PutRecord(api.Record{Seq: 1, Key: "a", Value: "b"}) // chapter 7's example
	if body, _ := frame.Open(b[:len(b)-1]); e != api.OK || !bytes.Equal(body, []byte{2, 1, 1, 97, 1, 98}) {
		t.Errorf("the body of the example is %v, %d", body, e)
	}
}

// P9.2: of a record that may not be Check's error, the first one, and no bytes.
func TestPutRecordOfOneThatMayNotBe(t *testing.T) {
	key, value := strings.Repeat("k", api.MaxKey+1), strings.Repeat("v", api.MaxValue+1)
	for i, c := range []struct {
		r api.Record
		e api.Errno
	}{
		{api.Record{}, api.ErrForm},
		{api.Record{Seq: 1, Value: "b"}, api.ErrForm},
		{api.Record{Delete: true, Seq: math.MaxUint64}, api.ErrForm},
		{api.Record{Value: value}, api.ErrForm},
		{api.Record{Key: key}, api.ErrLong},
		{api.Record{Delete: true, Key: key}, api.ErrLong},
		{api.Record{Delete: true, Key: key, Value: "b"}, api.ErrLong},
		{api.Record{Delete: true, Seq: 1, Key: "a", Value: "b"}, api.ErrForm},
		{api.Record{Delete: true, Key: "a", Value: value}, api.ErrForm},
		{api.Record{Key: "a", Value: value}, api.ErrLong},
		{api.Record{Key: key, Value: value}, api.ErrLong},
	} {
		if b, e := frame.PutRecord(c.r); e != c.e || b != nil {
			t.Errorf("PutRecord of record %d: %s, %d; it ought to be error %d", i, begin(b), e, c.e)
		}
	}
}

// P9.2: of a body that Read refuses its error, and no record, though parts of one were read.
func TestGetRecordOfBodiesThatAreRefused(t *testing.T) {
	key, value := strings.Repeat("k", api.MaxKey+1), strings.Repeat("v", api.MaxValue+1)
	long := func(s string) []byte { return join(written(uint64(len(s))), []byte(s)) }
	for _, c := range []struct {
		body []byte
		e    api.Errno
	}{
		{nil, api.ErrShort},
		{[]byte{2}, api.ErrShort},
		{[]byte{2, 1, 1, 97, 1}, api.ErrShort},
		{[]byte{2, 1, 1, 97, 2, 98}, api.ErrShort},
		{[]byte{3, 1, 2, 97}, api.ErrShort},
		{[]byte{2, 1, 1, 97, 1, 98, 0}, api.ErrLong},
		{[]byte{3, 1, 1, 97, 1, 98}, api.ErrLong},
		{[]byte{0}, api.ErrForm},
		{[]byte{1, 1, 1, 97, 1, 98}, api.ErrForm},
		{[]byte{4, 1, 1, 97, 1, 98}, api.ErrForm},
		{[]byte{255}, api.ErrForm},
		{[]byte{2, 129, 0, 1, 97, 1, 98}, api.ErrForm},
		{[]byte{2, 1, 129, 0, 97, 1, 98}, api.ErrForm},
		{[]byte{2, 1, 1, 97, 129, 0, 98}, api.ErrForm},
		{[]byte{2, 1, 0, 1, 98}, api.ErrForm},
		{join([]byte{2}, bytes.Repeat([]byte{255}, 10), []byte{1, 97, 0}), api.ErrLong},
		{join([]byte{2, 1}, long(key), []byte{0}), api.ErrLong},
		{join([]byte{2, 1, 1, 97}, long(value)), api.ErrLong},
		{headBody(api.Config{Exp: 12, Segments: 1}, 0), api.ErrForm},
		{[]byte{frame.Foot, 1, 1, 97}, api.ErrForm},
	} {
		expectNoRecord(t, c.body, c.e)
	}
	for _, r := range records() {
		body := recordBody(r)
		for n := range min(len(body), 12) {
			expectNoRecord(t, body[:n], api.ErrShort)
			expectNoRecord(t, body[:len(body)-1-n], api.ErrShort)
		}
		expectNoRecord(t, append(bytes.Clone(body), 0), api.ErrLong)
	}
}

// R2: Open's error is told ahead of Read's: a body that Read would refuse, with a sum that is wrong.
func TestGetRecordTellsOpensErrorAhead(t *testing.T) {
	for _, body := range [][]byte{{}, {0}, {2}, {3, 1, 1, 97, 0}, {2, 129, 0, 1, 97, 1, 98}} {
		b := withSum(body)
		b[len(b)-1] ^= 1
		expectNone(t, stuffed(b), api.ErrSum)
		if len(body) > 0 {
			expectNone(t, stuffed(body), api.ErrShort)
		}
		expectNone(t, append(stuffed(withSum(body)), 0), api.ErrForm)
	}
}
