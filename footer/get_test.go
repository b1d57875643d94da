package footer_test

import (
	"bytes"
	"encoding/binary"
	"fmt"
	"math/rand/v2"
	"slices"
	"testing"

	"fascicle/api"
	"fascicle/footer"
	"fascicle/frame"
	"fascicle/table"
)

// P13.2: a footer's body, written by hand.
func TestGetOfAKnownBody(t *testing.T) {
	body := []byte{
		4,
		2, 0, 0, 0,
		44, 1, 0, 0,
		9, 0, 0, 0, 0, 0, 0, 0, 43, 1, 0, 0,
		0, 0, 0, 0, 0, 0, 0, 128, 0, 0, 0, 0,
		9, 0, 0, 0, 0, 0, 0, 0,
	}
	f, e := footer.Get(frame.Seal(body)[:len(body)+9])
	if want := of(300, entry(9, 299), entry(high, 0)); e != api.OK || !same(f, want) {
		t.Errorf("%s, %d; it ought to be %s", show(f), e, show(want))
	}
}

// P13.2: the footer of each chunk; with its nought it is no chunk.
func TestGet(t *testing.T) {
	for _, f := range footers() {
		if got, e := footer.Get(chunkOf(bodyOf(f))); e != api.OK || !same(got, f) {
			t.Errorf("the chunk of %s is got as %s, %d", show(f), show(got), e)
		}
		expectNone(t, frameOf(f), api.ErrForm)
	}
}

// P13.2: Open's errors: no bytes, a nought at each place, no whole sum, bytes that aren't stuffed so, another sum.
func TestGetOfChunksThatAreNotOpened(t *testing.T) {
	expectNone(t, nil, api.ErrShort)
	expectNone(t, []byte{}, api.ErrShort)
	expectNone(t, []byte{0}, api.ErrForm)
	expectNone(t, []byte{1}, api.ErrShort)
	expectNone(t, []byte{9, 4}, api.ErrShort)
	expectNone(t, stuffed([]byte{4, 1, 0, 0, 0, 1, 0}), api.ErrShort)
	expectNone(t, stuffed(make([]byte, 8)), api.ErrSum)
	for _, f := range footers()[:12] {
		chunk := chunkOf(bodyOf(f))
		for at := range chunk {
			other := bytes.Clone(chunk)
			other[at] = 0
			expectNone(t, other, api.ErrForm)
			_, e := frame.Open(chunk[:at])
			expectNone(t, chunk[:at], e)
			if e == api.OK {
				t.Errorf("%d bytes of %s are opened", at, begin(chunk))
			}
		}
		body := bodyOf(f)
		for at := range body {
			other := bytes.Clone(body)
			other[at] ^= 64
			expectNone(t, stuffed(join(other, unsealed(chunk)[len(body):])), api.ErrSum)
		}
	}
}

// unsealed gives a chunk's bytes that were stuffed: a body and its sum.
func unsealed(chunk []byte) []byte {
	var b []byte
	for len(chunk) > 0 {
		n := int(chunk[0])
		b = append(b, chunk[1:n]...)
		chunk = chunk[n:]
		if n < 255 && len(chunk) > 0 {
			b = append(b, 0)
		}
	}
	return b
}

// P13.2: a wrong sum is told ahead of all that is wrong in the body.
func TestGetOfAWrongSumAndAWrongBody(t *testing.T) {
	f := of(9, entry(2, 1), entry(1, 9))
	for _, body := range [][]byte{{}, {5}, {4}, {4, 255, 255, 255, 255}, bodyOf(f), bodyOf(of(9)), append(bodyOf(of(9, entry(1, 9))), 7)} {
		b := unsealed(chunkOf(body))
		b[len(b)-1] ^= 1
		expectNone(t, stuffed(b), api.ErrSum)
	}
}

// P13.2: an empty body, and each other first byte, whatever stands behind it.
func TestGetOfAnotherKind(t *testing.T) {
	expectNoFooter(t, nil, api.ErrShort)
	expectNoFooter(t, []byte{}, api.ErrShort)
	expectNoFooter(t, []byte{4}, api.ErrShort)
	right := bodyOf(of(9, entry(1, 1)))[1:]
	for x := range 256 {
		for _, behind := range [][]byte{nil, {0}, {255, 255, 255, 255}, {1, 0, 0, 0, 9}, right, append(bytes.Clone(right), 7), right[:10]} {
			if x != 4 {
				expectNoFooter(t, append([]byte{byte(x)}, behind...), api.ErrForm)
			}
		}
	}
	record, _ := frame.PutRecord(api.Record{Seq: 1, Key: "a", Value: "b"})
	expectNone(t, record[:len(record)-1], api.ErrForm)
	head, _ := frame.PutHead(api.Config{Exp: 12, Segments: 1}, 0)
	expectNone(t, head[:len(head)-1], api.ErrForm)
}

// P13.2: a body that is cut off at each place.
func TestGetOfBodiesThatAreCutOff(t *testing.T) {
	for _, f := range footers() {
		body := bodyOf(f)
		for n := range body {
			if n < 40 || n > len(body)-40 || n%7 == 0 {
				expectNoFooter(t, body[:n], api.ErrShort)
			}
		}
	}
}

// P13.2: entries or fences that are wanting, one of them or more.
func TestGetOfEntriesThatAreWanting(t *testing.T) {
	for _, n := range []int{1, 2, 15, 16, 17, 33, 100} {
		p := partsOf(of(1000, by(n, rules()[0])...))
		p.fences = p.fences[:len(p.fences)-1]
		expectNoFooter(t, p.body(), api.ErrShort)
		p.fences = nil
		expectNoFooter(t, p.body(), api.ErrShort)
		p.l = p.l[:n-1]
		expectNoFooter(t, p.body(), api.ErrShort)
		p = partsOf(of(1000, by(n, rules()[0])...))
		for _, more := range []uint32{1, 17, 1000, 1 << 20} {
			p.n = min(uint32(n)+more, 1<<20)
			expectGet(t, p.body())
		}
	}
	p := parts{kind: 4, n: 1 << 20, used: mostA}
	expectNoFooter(t, p.body(), api.ErrShort)
}

// P13.2: a body that says more entries than may be, however many there are, if Used is wanting, too.
func TestGetOfMoreEntriesThanMayBe(t *testing.T) {
	for _, n := range []uint32{1<<20 + 1, 1<<20 + 2, 1 << 21, 1<<24 + 1, 1 << 31, 1<<31 + 1, mostA - 1, mostA} {
		p := parts{kind: 4, n: n, used: 100}
		expectNoFooter(t, p.body()[:5], api.ErrLong)
		expectNoFooter(t, p.body()[:7], api.ErrLong)
		expectNoFooter(t, p.body(), api.ErrLong)
		p.l, p.fences = []table.Entry{entry(1, 1)}, []uint64{1}
		expectNoFooter(t, p.body(), api.ErrLong)
		p.l[0].At = 100
		expectNoFooter(t, p.body(), api.ErrLong)
	}
}

// P13.2: one entry more than may be, with all that belongs to it; and as many as may be.
func TestGetOfVeryMany(t *testing.T) {
	l := great(1<<20 + 1)
	expectNone(t, chunkOf(bodyOf(of(1<<20+1, l...))), api.ErrLong)
	f := of(1<<20, l[:1<<20]...)
	if got, e := footer.Get(chunkOf(bodyOf(f))); e != api.OK || !same(got, f) {
		t.Errorf("2^20 entries are got as %s, %d", show(got), e)
	}
	p := partsOf(f)
	p.used--
	expectNone(t, chunkOf(p.body()), api.ErrForm)
	p.behind = []byte{0}
	expectNone(t, chunkOf(p.body()), api.ErrLong)
}

// P13.2: entries that don't rise, also where fences are wanting or fall behind them.
func TestGetOfEntriesThatDoNotRise(t *testing.T) {
	for _, c := range wrong() {
		if c.e != api.ErrOrder {
			continue
		}
		p := partsOf(c.f)
		expectNoFooter(t, p.body(), api.ErrOrder)
		p.behind = []byte{1, 2, 3}
		expectNoFooter(t, p.body(), api.ErrOrder)
		p.fences = []uint64{9, 8, 7}[:len(p.fences)]
		expectNoFooter(t, p.body(), api.ErrOrder)
		p.fences, p.behind = nil, nil
		expectNoFooter(t, p.body(), api.ErrOrder)
		p.used = 0
		expectNoFooter(t, p.body(), api.ErrOrder)
	}
}

// P13.2: fences of which one is below the one ahead.
func TestGetOfFencesThatFall(t *testing.T) {
	for _, n := range []int{17, 32, 33, 48, 100} {
		f := of(1000, by(n, rules()[0])...)
		for i := 1; i < len(fencesOf(f.Table)); i++ {
			p := partsOf(f)
			p.fences[i] = p.fences[i-1] - 1
			expectNoFooter(t, p.body(), api.ErrOrder)
			p.behind = []byte{0}
			expectNoFooter(t, p.body(), api.ErrOrder)
			p.used = 1
			expectNoFooter(t, p.body(), api.ErrOrder)
		}
	}
}

// P13.2: whatever is left behind a footer, one that may not be among them.
func TestGetOfBytesThatAreLeft(t *testing.T) {
	for x := range 256 {
		for _, f := range []footer.Footer{of(9, entry(1, 1)), of(9), of(9, entry(1, 9)), of(100, by(17, rules()[0])...)} {
			expectNoFooter(t, append(bodyOf(f), byte(x)), api.ErrLong)
		}
	}
	for _, f := range footers() {
		body := bodyOf(f)
		expectNoFooter(t, append(body, body...), api.ErrLong)
		p := partsOf(f)
		p.fences = append(p.fences, most)
		expectNoFooter(t, p.body(), api.ErrLong)
	}
}

// P13.2: a footer that may not be by Check: without entries, and with one at Used or above.
func TestGetOfFootersThatMayNotBe(t *testing.T) {
	for _, c := range wrong() {
		expectNoFooter(t, bodyOf(c.f), c.e)
	}
}

// P13.2: fences that don't fall, but aren't those of the entries: each of them in turn.
func TestGetOfOtherFences(t *testing.T) {
	for _, f := range footers() {
		right := fencesOf(f.Table)
		for i, fence := range right {
			for _, other := range []uint64{fence - 1, fence + 1, 0, most} {
				p := partsOf(f)
				p.fences[i] = other
				if other == fence {
					continue
				}
				if slices.IsSorted(p.fences) {
					expectNoFooter(t, p.body(), api.ErrForm)
				} else {
					expectNoFooter(t, p.body(), api.ErrOrder)
				}
			}
		}
	}
	p := partsOf(of(100, by(17, rules()[0])...))
	p.fences[1] = p.l[15].Hash // of the entry ahead
	expectNoFooter(t, p.body(), api.ErrForm)
}

// fault is a change of a body's parts, and the error that it brings about.
type fault struct {
	name string
	make func(p *parts)
	e    api.Errno
}

// faults are in the order in which they are told.
func faults() []fault {
	return []fault{
		{"another first byte", func(p *parts) { p.kind = 5 }, api.ErrForm},
		{"more entries than may be", func(p *parts) { p.n = 1<<20 + 1 }, api.ErrLong},
		{"two entries are the same", func(p *parts) { p.l[3] = p.l[2] }, api.ErrOrder},
		{"a fence is wanting", func(p *parts) { p.fences, p.behind = p.fences[:2], nil }, api.ErrShort},
		{"a fence falls", func(p *parts) { p.fences[1] = p.fences[0] - 1 }, api.ErrOrder},
		{"a byte is left", func(p *parts) { p.behind = []byte{7} }, api.ErrLong},
		{"an entry stands at Used", func(p *parts) { p.used = p.l[20].At }, api.ErrForm},
		{"another fence", func(p *parts) { p.fences[0]-- }, api.ErrForm},
	}
}

// P13.2, R2: bodies with each choice of these faults: the one that the chapter names first is told.
func TestGetOfSeveralFaults(t *testing.T) {
	for choice := 1; choice < 1<<len(faults()); choice++ {
		p := partsOf(of(1000, by(40, func(i int) uint64 { return uint64(3*i + 9) })...))
		p.fences = slices.Clone(p.fences)
		want, names := api.OK, ""
		for i := len(faults()) - 1; i >= 0; i-- { // from behind, so that one that cuts bytes off does it at last
			if choice>>i&1 == 1 {
				x := faults()[i]
				x.make(&p)
				want, names = x.e, fmt.Sprint(names, x.name, "; ")
			}
		}
		_, e := footer.Get(chunkOf(p.body()))
		if e != want {
			t.Errorf("%s: %d; it ought to be %d", names, e, want)
		}
		expectNoFooter(t, p.body(), want)
	}
}

// P13.2, R2: no entries: bytes that are left are told first, and ahead of them nothing.
func TestGetOfNoEntries(t *testing.T) {
	for _, used := range []uint32{0, 1, mostA} {
		p := parts{kind: 4, used: used}
		expectNoFooter(t, p.body(), api.ErrForm)
		p.fences = []uint64{9}
		expectNoFooter(t, p.body(), api.ErrLong)
		p.l = []table.Entry{entry(9, 1)}
		expectNoFooter(t, p.body(), api.ErrLong)
	}
}

// P13.2, P13.4: bodies with each byte another one, and cut off there.
func TestGetOfBodiesThatAreOthers(t *testing.T) {
	for _, f := range []footer.Footer{of(100, entry(3, 20), entry(3, 60), entry(9, 40)), of(1, entry(0, 0)), of(52, by(17, rules()[0])...)} {
		body := bodyOf(f)
		for at := range body {
			for x := range 256 {
				other := bytes.Clone(body)
				other[at] = byte(x)
				expectGet(t, other)
				if x%16 == 0 {
					expectGet(t, other[:at+1])
				}
			}
		}
	}
}

// P13.2, P13.4: any bytes as a body, and footers with some bytes changed; of any chunk that is got the footer's frame is that chunk and a nought.
func TestGetAnswersTheFooterThatIsPut(t *testing.T) {
	r := rand.New(rand.NewPCG(13, 4))
	got := 0
	for range 20000 {
		body := anyBody(r)
		expectGet(t, body)
		chunk := chunkOf(body)
		f, e := footer.Get(chunk)
		if e != api.OK {
			continue
		}
		got++
		if b, e := footer.Put(f); e != api.OK || !bytes.Equal(b, append(chunk, 0)) {
			t.Errorf("%s is got, which is put as %s, %d", show(f), begin(b), e)
		}
	}
	if got < 500 {
		t.Errorf("just %d footers were got", got)
	}
}

// anyBody gives any bytes, or a footer's body with some bytes changed, cut off, or left behind it.
func anyBody(r *rand.Rand) []byte {
	if r.IntN(4) == 0 {
		b := []byte{4, byte(r.IntN(3)), 0, 0, 0, 255}
		for range r.IntN(40) {
			b = append(b, byte(r.IntN(3)))
		}
		return b[r.IntN(2):]
	}
	body := bodyOf(some(r, 40))
	for range r.IntN(3) {
		body[r.IntN(len(body))] = byte(r.IntN(4))
	}
	switch r.IntN(6) {
	case 0:
		body = body[:r.IntN(len(body))]
	case 1:
		body = append(body, byte(r.IntN(256)))
	}
	return body
}

// P13.2: any bytes as a chunk.
func TestGetOfAnyChunk(t *testing.T) {
	r := rand.New(rand.NewPCG(13, 5))
	for range 20000 {
		chunk := make([]byte, r.IntN(60))
		for i := range chunk {
			chunk[i] = byte(r.IntN(20))
		}
		_, want := frame.Open(chunk)
		if want == api.OK {
			t.Fatalf("%v has a sum", chunk)
		}
		expectNone(t, chunk, want)
	}
	for i := range 1 << 16 {
		chunk := binary.LittleEndian.AppendUint16(nil, uint16(i))
		_, want := frame.Open(chunk)
		expectNone(t, chunk, want)
	}
}
