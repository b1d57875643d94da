package frame_test

import (
	"bytes"
	"testing"

	"fascicle/api"
	"fascicle/frame"
)

// kinds are bodies of which some are heads', some records', some neither.
func kinds() [][]byte {
	return [][]byte{
		{}, {0}, {7}, noNoughts(245), noNoughts(246), noNoughts(247), make([]byte, 300), append(noNoughts(254), 0, 0), noNoughts(2000),
		headBody(api.Config{Exp: 12, Segments: 1}, 0),
		headBody(api.Config{Exp: 24, Segments: 65536}, 65535),
		recordBody(api.Record{Seq: 1, Key: "a", Value: "b"}),
		recordBody(api.Record{Delete: true, Seq: 300, Key: "abc"}),
		{1, 2, 12, 1}, {2, 1, 1, 97, 1, 98, 0},
	}
}

// wrongChunks are chunks that aren't opened.
func wrongChunks() [][]byte {
	other := chunkOf([]byte("abc"))
	other[3] = 'd'
	return [][]byte{{}, {0}, {9, 1}, {2, 7}, other, frameOf([]byte("abc")), append(chunkOf(noNoughts(246)), 1)}
}

// change makes each byte of b another one, those in its spare room, too.
func change(b []byte) {
	b = b[:cap(b)]
	for i := range b {
		b[i] ^= 85
	}
}

// told is all that is answered of a chunk.
type told struct {
	body       string
	bodyE      api.Errno
	record     api.Record
	recordE    api.Errno
	config     api.Config
	number     uint32
	headE      api.Errno
	sealed     string
	sealedBody string
}

// tell asks all calls of a chunk, and Seal of it and of its body.
func tell(chunk []byte) told {
	var x told
	body, e := frame.Open(chunk)
	x.body, x.bodyE = string(body), e
	x.record, x.recordE = frame.GetRecord(chunk)
	x.config, x.number, x.headE = frame.GetHead(chunk)
	x.sealed, x.sealedBody = string(frame.Seal(chunk)), string(frame.Seal(body))
	return x
}

// P9.4, R4: what is handed in isn't changed, its spare room neither, and the spare room doesn't count.
func TestBytesAreNotChanged(t *testing.T) {
	behind := bytes.Repeat([]byte{2, 0, 255}, 200)
	for _, body := range kinds() {
		all := join(body, behind)
		if b := frame.Seal(all[:len(body)]); !bytes.Equal(b, frameOf(body)) {
			t.Errorf("with others behind it %s is sealed as %s", begin(body), begin(b))
		}
		if !bytes.Equal(all, join(body, behind)) {
			t.Errorf("Seal changed %s to %s, or what stands behind it", begin(body), begin(all))
		}
	}
	chunks := wrongChunks()
	for _, body := range kinds() {
		chunks = append(chunks, chunkOf(body))
	}
	for _, chunk := range chunks {
		want := tell(bytes.Clone(chunk))
		all := join(chunk, behind)
		if got := tell(all[:len(chunk)]); got != want {
			t.Errorf("with others behind it something else is told of %s", begin(chunk))
		}
		if !bytes.Equal(all, join(chunk, behind)) {
			t.Errorf("%s was changed to %s, or what stands behind it", begin(chunk), begin(all))
		}
	}
}

// P9.4, R4: an answer stays what it is when what was handed in is changed, which isn't kept.
func TestBytesAreNotKept(t *testing.T) {
	for _, body := range kinds() {
		given := bytes.Clone(body)
		sealed := frame.Seal(given)
		change(given)
		if !bytes.Equal(sealed, frameOf(body)) {
			t.Errorf("behind a change of the body the frame of %s is %s", begin(body), begin(sealed))
		}
		if again := frame.Seal(given); !bytes.Equal(again, frameOf(given)) {
			t.Errorf("behind a change the body %s is sealed as %s", begin(given), begin(again))
		}
		chunk := chunkOf(body)
		opened, _ := frame.Open(chunk)
		r, _ := frame.GetRecord(chunk)
		was := tell(chunk)
		change(chunk)
		if !bytes.Equal(opened, body) || r != was.record {
			t.Errorf("behind a change of its chunk the body %s is %s", begin(body), begin(opened))
		}
		expectOpen(t, chunk)
	}
}

// P9.4, R4: an answer that is changed changes neither what was handed in nor another answer.
func TestAnswersAreNewMemory(t *testing.T) {
	for _, body := range kinds() {
		given, chunk := bytes.Clone(body), chunkOf(body)
		first, second := frame.Seal(given), frame.Seal(given)
		change(first)
		if !bytes.Equal(given, body) || !bytes.Equal(second, frameOf(body)) || !bytes.Equal(frame.Seal(given), frameOf(body)) {
			t.Errorf("a change of a frame of %s changed it, or another frame", begin(body))
		}
		one, _ := frame.Open(chunk)
		other, _ := frame.Open(chunk)
		change(one)
		again, e := frame.Open(chunk)
		if !bytes.Equal(chunk, chunkOf(body)) || !bytes.Equal(other, body) || !bytes.Equal(again, body) || e != api.OK {
			t.Errorf("a change of what was opened changed the chunk of %s, or another answer", begin(body))
		}
	}
}

// P9.2, P9.3, R4: the frames of records and heads are new memory, too.
func TestFramesAreNewMemory(t *testing.T) {
	for _, r := range records() {
		first, _ := frame.PutRecord(r)
		second, _ := frame.PutRecord(r)
		change(first)
		third, e := frame.PutRecord(r)
		if want := frameOf(recordBody(r)); e != api.OK || !bytes.Equal(second, want) || !bytes.Equal(third, want) {
			t.Errorf("a change of one frame of a record changed another one: %s, %s", begin(second), begin(third))
		}
	}
	for _, h := range heads() {
		first, _ := frame.PutHead(h.config, h.number)
		second, _ := frame.PutHead(h.config, h.number)
		change(first)
		third, e := frame.PutHead(h.config, h.number)
		if want := frameOf(headBody(h.config, h.number)); e != api.OK || !bytes.Equal(second, want) || !bytes.Equal(third, want) {
			t.Errorf("a change of one frame of %v changed another one: %v, %v", h, second, third)
		}
	}
}

// P9.4, R4: what is appended to one answer changes no other one, nor what was handed in.
func TestAppendedBytesChangeNothing(t *testing.T) {
	for _, body := range kinds() {
		given, chunk := bytes.Clone(body), chunkOf(body)
		first, second := frame.Seal(given), frame.Seal(given)
		one, _ := frame.Open(chunk)
		other, _ := frame.Open(chunk)
		_ = append(first, "more"...)
		_ = append(one, "more than a sum"...)
		if !bytes.Equal(given, body) || !bytes.Equal(second, frameOf(body)) {
			t.Errorf("what was appended to a frame of %s changed it, or another frame", begin(body))
		}
		if !bytes.Equal(chunk, chunkOf(body)) || !bytes.Equal(other, body) || !bytes.Equal(append(other, chunk...), join(body, chunkOf(body))) {
			t.Errorf("what was appended to what was opened changed the chunk of %s, or another answer", begin(body))
		}
	}
}

// P9.1, and the section 'Ways': a body is cut off with no room behind it: its sum can't be seen through it, nor overwritten.
func TestBodyHasNoRoomBehindIt(t *testing.T) {
	for _, body := range kinds() {
		if got, e := frame.Open(chunkOf(body)); e != api.OK || cap(got) != len(body) {
			t.Errorf("the body %s has room for %d bytes, %d", begin(body), cap(got), e)
		}
	}
}

// R5: what is answered hangs on the arguments alone: between other calls it is the same.
func TestCallsTellTheSameAgain(t *testing.T) {
	chunks := wrongChunks()
	for _, body := range kinds() {
		chunks = append(chunks, chunkOf(body))
	}
	var first []told
	for _, chunk := range chunks {
		first = append(first, tell(chunk))
	}
	for i := len(chunks) - 1; i >= 0; i-- {
		if tell(chunks[i]) != first[i] {
			t.Errorf("of %s something else is told the second time", begin(chunks[i]))
		}
	}
}
