package frame_test

import (
	"bytes"
	"math"
	"math/rand/v2"
	"testing"

	"fascicle/api"
	"fascicle/frame"
)

// expectHead holds GetHead of the chunk of a body against what is to be told of it.
func expectHead(t *testing.T, body []byte) {
	t.Helper()
	wantC, wantN, wantE := headOf(body)
	c, n, e := frame.GetHead(chunkOf(body))
	if c != wantC || n != wantN || e != wantE {
		t.Errorf("GetHead of the chunk of %v: %v, %d, %d; it ought to be %v, %d, %d", body, c, n, e, wantC, wantN, wantE)
	}
}

// expectNoHead holds GetHead of the chunk of a body against an error; beside it there is nothing.
func expectNoHead(t *testing.T, body []byte, want api.Errno) {
	t.Helper()
	if c, n, e := frame.GetHead(chunkOf(body)); e != want || c != (api.Config{}) || n != 0 {
		t.Errorf("GetHead of the chunk of %v: %v, %d, %d; it ought to be error %d", body, c, n, e, want)
	}
}

// The chapter's constants.
func TestConstants(t *testing.T) {
	if frame.Head != 1 || frame.Foot != 4 || frame.Version != 2 {
		t.Errorf("Head %d, Foot %d, Version %d", frame.Head, frame.Foot, frame.Version)
	}
}

// P9.3: the frame of a head, worked out by hand.
func TestPutHeadOfKnownHeads(t *testing.T) {
	for _, c := range []struct {
		h    head
		body []byte
	}{
		{head{api.Config{Exp: 12, Segments: 1}, 0}, []byte{1, 2, 12, 1, 0}},
		{head{api.Config{Exp: 13, Segments: 300}, 299}, []byte{1, 2, 13, 172, 2, 171, 2}},
		{head{api.Config{Exp: 24, Segments: 65536}, 65535}, []byte{1, 2, 24, 128, 128, 4, 255, 255, 3}},
	} {
		b, e := frame.PutHead(c.h.config, c.h.number)
		if e != api.OK || !bytes.Equal(b, frameOf(c.body)) {
			t.Errorf("PutHead of %v: %v, %d; it ought to be the frame of %v", c.h, b, e, c.body)
		}
	}
}

// P9.3, P9.4: heads that may be, and the head of each one's chunk.
func TestHeads(t *testing.T) {
	for _, h := range heads() {
		b, e := frame.PutHead(h.config, h.number)
		if e != api.OK || !bytes.Equal(b, frameOf(headBody(h.config, h.number))) {
			t.Errorf("PutHead of %v: %v, %d; it ought to be %v", h, b, e, frameOf(headBody(h.config, h.number)))
			continue
		}
		if c, n, e := frame.GetHead(b[:len(b)-1]); e != api.OK || c != h.config || n != h.number {
			t.Errorf("GetHead of the chunk of %v: %v, %d, %d", h, c, n, e)
		}
		expectNone(t, b, api.ErrForm) // with its nought it is no chunk
	}
}

// P9.3: heads that may not be aren't put, and not got.
func TestHeadsThatMayNotBe(t *testing.T) {
	for _, h := range wrongHeads() {
		if b, e := frame.PutHead(h.config, h.number); e != api.ErrArg || b != nil {
			t.Errorf("PutHead of %v: %v, %d; it ought to be ErrArg", h, b, e)
		}
		expectNoHead(t, headBody(h.config, h.number), api.ErrArg)
	}
}

// P9.3: each Exp that its type has.
func TestHeadOfEachExp(t *testing.T) {
	for exp := range 256 {
		c := api.Config{Exp: uint8(exp), Segments: 7}
		want := api.ErrArg
		if exp >= 12 && exp <= 24 {
			want = api.OK
		}
		if _, e := frame.PutHead(c, 6); e != want {
			t.Errorf("PutHead by Exp %d: %d; it ought to be %d", exp, e, want)
		}
		expectHead(t, []byte{1, 2, byte(exp), 7, 6})
	}
}

// P9.3: bytes that are wanting: bodies of 0, 1, 2, 3 bytes, and each head's, cut off at each place.
func TestGetHeadOfBytesThatAreWanting(t *testing.T) {
	for _, body := range [][]byte{nil, {1}, {1, 2}, {1, 2, 12}, {1, 2, 0}, {1, 2, 12, 1}, {1, 2, 12, 0}, {1, 2, 12, 128}, {1, 2, 12, 1, 128}} {
		expectNoHead(t, body, api.ErrShort)
	}
	for _, h := range heads() {
		body := headBody(h.config, h.number)
		for n := range body {
			expectNoHead(t, body[:n], api.ErrShort)
		}
	}
}

// P9.3: another first byte, or another second one, whatever stands behind it.
func TestGetHeadOfAnotherKind(t *testing.T) {
	for x := range 256 {
		for _, behind := range [][]byte{{}, {2}, {2, 12, 1, 0}, {2, 12, 1, 0, 0}, {1}, {2, 11, 0, 0}, {2, 12, 129, 0, 0}, bytes.Repeat([]byte{255}, 14)} {
			if x != 1 {
				expectNoHead(t, join([]byte{byte(x)}, behind), api.ErrForm)
			}
		}
		for _, behind := range [][]byte{{}, {12}, {12, 1}, {12, 1, 0}, {12, 1, 0, 0}, {11, 0, 0}, {12, 129, 0, 0}, bytes.Repeat([]byte{255}, 14)} {
			if x != 2 {
				expectNoHead(t, join([]byte{1, byte(x)}, behind), api.ErrForm)
			}
		}
	}
}

// P9.3: Get's errors of Segments and of the number.
func TestGetHeadOfNumbersThatAreNone(t *testing.T) {
	nines := bytes.Repeat([]byte{255}, 9)
	for _, c := range []struct {
		number []byte
		e      api.Errno
	}{
		{[]byte{128, 0}, api.ErrForm},
		{[]byte{129, 0}, api.ErrForm},
		{longer(65535), api.ErrForm},
		{longer(1 << 32), api.ErrForm},
		{join(nines, []byte{0}), api.ErrForm},
		{join(nines, []byte{2}), api.ErrLong},
		{join(nines, []byte{127}), api.ErrLong},
		{join(nines, []byte{128, 1}), api.ErrLong},
		{join(nines, []byte{255, 255, 0}), api.ErrLong},
		{nines, api.ErrShort},
		{[]byte{128}, api.ErrShort},
	} {
		expectNoHead(t, join([]byte{1, 2, 12, 1}, c.number), c.e)
		if c.e != api.ErrShort {
			expectNoHead(t, join([]byte{1, 2, 12}, c.number, []byte{0}), c.e)
			expectNoHead(t, join([]byte{1, 2, 12}, c.number), c.e)
			expectNoHead(t, join([]byte{1, 2, 12, 1}, c.number, []byte{0}), c.e)
		}
	}
}

// P9.3: Segments and numbers of 2^32 and more, those among them whose lower 32 bits alone may be: ErrArg, but behind what is left ErrLong.
func TestGetHeadOfGreatNumbers(t *testing.T) {
	great := []uint64{math.MaxUint32 - 1, math.MaxUint32, 1 << 32, 1<<32 + 1, 1<<32 + 7, 1<<33 + 7, 1<<40 + 1, 1<<48 + 65536, 1<<63 + 1, math.MaxUint64}
	for _, x := range great {
		for _, small := range []uint64{0, 1, 7, 65536} {
			for _, pair := range [][2]uint64{{x, small}, {small, x}, {x, x}, {x, x - 1}} {
				body := join([]byte{1, 2, 12}, written(pair[0]), written(pair[1]))
				expectNoHead(t, body, api.ErrArg)
				expectNoHead(t, append(body, 0), api.ErrLong)
			}
		}
	}
}

// P9.3: whatever is left behind a head, one that may not be among them.
func TestGetHeadOfBytesThatAreLeft(t *testing.T) {
	for x := range 256 {
		for _, h := range []head{{api.Config{Exp: 12, Segments: 1}, 0}, {api.Config{Exp: 24, Segments: 65536}, 65535}, {api.Config{Exp: 11, Segments: 1}, 0}, {api.Config{Exp: 12, Segments: 1}, 1}, {api.Config{}, 0}} {
			expectNoHead(t, append(headBody(h.config, h.number), byte(x)), api.ErrLong)
		}
	}
}

// part is a piece of a head's body, and what it brings about: e at once, or ErrArg at the end.
type part struct {
	bytes []byte
	e     api.Errno
	late  bool
}

// P9.3, R2: bodies with any number of faults: going from the left the first one is told, then bytes that are left, then what may not be.
func TestGetHeadOfSeveralFaults(t *testing.T) {
	over := join(bytes.Repeat([]byte{255}, 9), []byte{2})
	first := []part{{bytes: []byte{1}}, {bytes: []byte{2}, e: api.ErrForm}, {bytes: []byte{0}, e: api.ErrForm}}
	second := []part{{bytes: []byte{2}}, {bytes: []byte{1}, e: api.ErrForm}, {bytes: []byte{255}, e: api.ErrForm}}
	exp := []part{{bytes: []byte{12}}, {bytes: []byte{24}}, {bytes: []byte{11}, late: true}, {bytes: []byte{25}, late: true}, {bytes: []byte{0}, late: true}}
	segments := []part{{bytes: written(300)}, {bytes: written(65536)}, {bytes: written(0), late: true}, {bytes: written(65537), late: true}, {bytes: written(1<<32 + 300), late: true}, {bytes: longer(300), e: api.ErrForm}, {bytes: over, e: api.ErrLong}}
	number := []part{{bytes: written(0)}, {bytes: written(299)}, {bytes: written(65536), late: true}, {bytes: written(1 << 32), late: true}, {bytes: longer(0), e: api.ErrForm}, {bytes: over, e: api.ErrLong}, {bytes: []byte{255}, e: api.ErrShort}}
	behind := []part{{}, {bytes: []byte{0}, e: api.ErrLong}, {bytes: []byte{1, 2, 12, 1, 0}, e: api.ErrLong}}
	for _, a := range first {
		for _, b := range second {
			for _, c := range exp {
				for _, d := range segments {
					for _, f := range number {
						for _, g := range behind {
							if f.e == api.ErrShort {
								g = part{} // it would no more be wanting
							}
							expectFaults(t, []part{a, b, c, d, f, g})
						}
					}
				}
			}
		}
	}
}

// expectFaults holds GetHead of parts against the first fault, and the model against it, too.
func expectFaults(t *testing.T, parts []part) {
	t.Helper()
	var body []byte
	want := api.OK
	late := false
	for _, p := range parts {
		body = append(body, p.bytes...)
		if want == api.OK {
			want = p.e
		}
		late = late || p.late
	}
	if want == api.OK && late {
		want = api.ErrArg
	}
	if want != api.OK {
		expectNoHead(t, body, want)
	}
	if _, _, e := headOf(body); e != want {
		t.Errorf("the model tells %d of %v; it ought to be %d", e, body, want)
	}
	expectHead(t, body)
}

// P9.3, P9.4: heads with each byte another one, and any bytes, as a body.
func TestGetHeadOfAnyBody(t *testing.T) {
	for _, h := range []head{{api.Config{Exp: 12, Segments: 1}, 0}, {api.Config{Exp: 13, Segments: 300}, 299}, {api.Config{Exp: 24, Segments: 65536}, 65535}} {
		body := headBody(h.config, h.number)
		for at := range body {
			for x := range 256 {
				other := bytes.Clone(body)
				other[at] = byte(x)
				expectHead(t, other)
				expectHead(t, other[:at+1])
			}
		}
	}
	r := rand.New(rand.NewPCG(9, 5))
	for range 50000 {
		body := mixed(r, r.IntN(16))
		copy(body, []byte{1, 2, byte(11 + r.IntN(15))}[:r.IntN(4)])
		expectHead(t, body)
	}
}

// P9.4: of any chunk that is got as a head the head's frame is that chunk and a nought.
func TestGetHeadAnswersTheHeadThatIsPut(t *testing.T) {
	r := rand.New(rand.NewPCG(9, 6))
	got := 0
	for range 50000 {
		chunk := chunkOf(join([]byte{1, 2, byte(11 + r.IntN(15))}, written(r.Uint64N(70000)), written(r.Uint64N(70000))))
		c, n, e := frame.GetHead(chunk)
		if e != api.OK {
			continue
		}
		got++
		if b, e := frame.PutHead(c, n); e != api.OK || !bytes.Equal(b, append(chunk, 0)) {
			t.Fatalf("%v is got as %v, %d, which is put as %v, %d", chunk, c, n, b, e)
		}
	}
	if got < 1000 {
		t.Errorf("just %d heads were got", got)
	}
}

// R2: Open's error is told ahead of what the body says.
func TestGetHeadTellsOpensErrorAhead(t *testing.T) {
	for _, body := range [][]byte{{}, {2}, {1, 1}, {1, 2, 12, 0, 0}, {1, 2, 12, 1, 0, 0}, {1, 2, 12, 1, 0}} {
		b := withSum(body)
		b[len(b)-1] ^= 1
		expectNone(t, stuffed(b), api.ErrSum)
		if len(body) > 0 {
			expectNone(t, stuffed(body), api.ErrShort)
		}
		expectNone(t, append(stuffed(withSum(body)), 0), api.ErrForm)
	}
}
