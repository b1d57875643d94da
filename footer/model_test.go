package footer_test

import (
	"bytes"
	"encoding/binary"
	"fmt"
	"math"
	"math/rand/v2"
	"slices"
	"testing"

	"fascicle/api"
	"fascicle/footer"
	"fascicle/table"
	"fascicle/wide"
)

// The model writes and reads byte by byte, with nothing of the package that is tested.

const (
	high  = 1 << 63 // a Hash that would be below 0 if it had a sign
	most  = math.MaxUint64
	mostA = math.MaxUint32
)

// entry gives an entry.
func entry(hash uint64, at uint32) table.Entry {
	return table.Entry{Hash: hash, At: at}
}

// of gives a footer.
func of(used uint32, l ...table.Entry) footer.Footer {
	return footer.Footer{Used: used, Table: l}
}

// join puts pieces one behind the other.
func join(pieces ...[]byte) []byte {
	return bytes.Join(pieces, nil)
}

// rising: does each entry stand behind the one ahead?
func rising(l []table.Entry) bool {
	for i := range l {
		if i == 0 {
			continue
		}
		a, b := l[i-1], l[i]
		if a.Hash > b.Hash || a.Hash == b.Hash && a.At >= b.At {
			return false
		}
	}
	return true
}

// checkOf works out what Check ought to tell.
func checkOf(f footer.Footer) api.Errno {
	if len(f.Table) < 1 {
		return api.ErrForm
	}
	if len(f.Table) >= 1<<20+1 {
		return api.ErrLong
	}
	if !rising(f.Table) {
		return api.ErrOrder
	}
	for _, x := range f.Table {
		if x.At >= f.Used {
			return api.ErrForm
		}
	}
	return api.OK
}

// fencesOf works out the fences of entries: each entry is asked for its place.
func fencesOf(l []table.Entry) []uint64 {
	var fences []uint64
	for i, x := range l {
		if i%16 == 0 {
			fences = append(fences, x.Hash)
		}
	}
	return fences
}

// parts are what a body is made of, whether or not they go together.
type parts struct {
	kind   byte
	n      uint32
	used   uint32
	l      []table.Entry
	fences []uint64
	behind []byte
}

// partsOf gives the parts of a footer's body.
func partsOf(f footer.Footer) parts {
	return parts{kind: 4, n: uint32(len(f.Table)), used: f.Used, l: f.Table, fences: fencesOf(f.Table)}
}

// body gives the bytes of parts.
func (p parts) body() []byte {
	b := []byte{p.kind}
	b = binary.LittleEndian.AppendUint32(b, p.n)
	b = binary.LittleEndian.AppendUint32(b, p.used)
	for _, x := range p.l {
		b = binary.LittleEndian.AppendUint64(b, x.Hash)
		b = binary.LittleEndian.AppendUint32(b, x.At)
	}
	for _, x := range p.fences {
		b = binary.LittleEndian.AppendUint64(b, x)
	}
	return append(b, p.behind...)
}

// bodyOf gives a footer's body, whether or not it may be.
func bodyOf(f footer.Footer) []byte {
	return partsOf(f).body()
}

// stuffed gives bytes stuffed: groups that end with a nought, or with the 254th byte that is none.
func stuffed(b []byte) []byte {
	var all []byte
	for {
		n := bytes.IndexByte(b[:min(len(b), 254)], 0)
		switch {
		case n >= 0:
			all = append(append(all, byte(n+1)), b[:n]...)
			b = b[n+1:]
		case len(b) > 254:
			all = append(append(all, 255), b[:254]...)
			b = b[254:]
		default:
			return append(append(all, byte(len(b)+1)), b...)
		}
	}
}

// chunkOf gives a body's chunk.
func chunkOf(body []byte) []byte {
	return stuffed(binary.LittleEndian.AppendUint64(bytes.Clone(body), wide.Sum(0, body)))
}

// frameOf gives a footer's frame, whether or not it may be.
func frameOf(f footer.Footer) []byte {
	return append(chunkOf(bodyOf(f)), 0)
}

// footerOf works out what Get ought to tell of the chunk of a body, going from the left.
func footerOf(body []byte) (footer.Footer, api.Errno) {
	none := footer.Footer{}
	switch {
	case len(body) < 1:
		return none, api.ErrShort
	case body[0] != 4:
		return none, api.ErrForm
	case len(body) < 5:
		return none, api.ErrShort
	case binary.LittleEndian.Uint32(body[1:]) > 1048576:
		return none, api.ErrLong
	case len(body) < 9:
		return none, api.ErrShort
	}
	n := int(binary.LittleEndian.Uint32(body[1:]))
	entries := 9 + 12*n
	end := entries + 8*((n+15)/16)
	if len(body) < entries {
		return none, api.ErrShort
	}
	f := of(binary.LittleEndian.Uint32(body[5:]))
	for at := 9; at < entries; at += 12 {
		f.Table = append(f.Table, entry(binary.LittleEndian.Uint64(body[at:]), binary.LittleEndian.Uint32(body[at+8:])))
	}
	if !rising(f.Table) {
		return none, api.ErrOrder
	}
	if len(body) < end {
		return none, api.ErrShort
	}
	var fences []uint64
	for at := entries; at < end; at += 8 {
		fences = append(fences, binary.LittleEndian.Uint64(body[at:]))
	}
	if !slices.IsSorted(fences) {
		return none, api.ErrOrder
	}
	if len(body) > end {
		return none, api.ErrLong
	}
	if e := checkOf(f); e != api.OK {
		return none, e
	}
	if !slices.Equal(fences, fencesOf(f.Table)) {
		return none, api.ErrForm
	}
	return f, api.OK
}

// placesOf works out what Places ought to tell: all entries are looked at, one by one.
func placesOf(f footer.Footer, hash uint64) []uint32 {
	var places []uint32
	if checkOf(f) != api.OK {
		return nil
	}
	for _, x := range f.Table {
		if x.Hash == hash {
			places = append(places, x.At)
		}
	}
	slices.Sort(places)
	return places
}

// same: are both footers the same?
func same(f, g footer.Footer) bool {
	return f.Used == g.Used && slices.Equal(f.Table, g.Table)
}

// show tells a footer, or how it begins.
func show(f footer.Footer) string {
	if len(f.Table) > 6 {
		return fmt.Sprintf("Used %d, %v .. (%d entries)", f.Used, f.Table[:6], len(f.Table))
	}
	return fmt.Sprintf("Used %d, %v", f.Used, f.Table)
}

// begin tells how bytes begin.
func begin(b []byte) string {
	if len(b) > 60 {
		return fmt.Sprintf("%v .. (%d bytes)", b[:60], len(b))
	}
	return fmt.Sprint(b)
}

// expectGet holds Get of the chunk of a body against the model.
func expectGet(t *testing.T, body []byte) {
	t.Helper()
	want, wantE := footerOf(body)
	f, e := footer.Get(chunkOf(body))
	if e != wantE || !same(f, want) {
		t.Errorf("Get of the chunk of %s: %s, %d; it ought to be %s, %d", begin(body), show(f), e, show(want), wantE)
	}
}

// expectNone holds Get of a chunk against an error; beside it there is nothing.
func expectNone(t *testing.T, chunk []byte, want api.Errno) {
	t.Helper()
	f, e := footer.Get(chunk)
	if e != want || f.Used != 0 || f.Table != nil {
		t.Errorf("Get of %s: %s, %d; it ought to be error %d", begin(chunk), show(f), e, want)
	}
}

// expectNoFooter holds Get of the chunk of a body against an error, and the model, too.
func expectNoFooter(t *testing.T, body []byte, want api.Errno) {
	t.Helper()
	expectNone(t, chunkOf(body), want)
	if _, e := footerOf(body); e != want {
		t.Errorf("the model tells %d of %s; it ought to be %d", e, begin(body), want)
	}
}

// by gives n entries by a rule for their Hashes, which mustn't fall.
func by(n int, rule func(i int) uint64) []table.Entry {
	var l []table.Entry
	for i := range n {
		l = append(l, entry(rule(i), uint32(3*i+1)))
	}
	return l
}

// rules are rules by which Hashes are laid that don't fall: all unlike, all the same, the same over one fence and over several.
func rules() []func(i int) uint64 {
	return []func(i int) uint64{
		func(i int) uint64 { return uint64(2*i + 2) },
		func(i int) uint64 { return 0 },
		func(i int) uint64 { return 7 },
		func(i int) uint64 { return most },
		func(i int) uint64 { return uint64(i/2*5 + 1) },
		func(i int) uint64 { return uint64(i / 15) },
		func(i int) uint64 { return uint64(i/16*2 + 1) },
		func(i int) uint64 { return uint64(i/17*2 + 1) },
		func(i int) uint64 { return uint64((i + 8) / 16) },
		func(i int) uint64 { return uint64((i+1)/16*2 + 4) },
		func(i int) uint64 { return uint64((i + 20) / 50 * 9) },
		func(i int) uint64 { return uint64(min(i/40, 1)) * most },
		func(i int) uint64 { return high - 60 + uint64(i) },
		func(i int) uint64 { return uint64(i) << 54 },
	}
}

// footers are some that may be.
func footers() []footer.Footer {
	l := []footer.Footer{
		of(1, entry(0, 0)),
		of(mostA, entry(most, mostA-1)),
		of(100, entry(3, 20), entry(3, 60), entry(9, 40)),
		of(8, entry(3, 7), entry(5, 0), entry(5, 1), entry(9, 0), entry(9, 7)),
		of(mostA, entry(0, 0), entry(0, mostA-1), entry(high-1, 9), entry(high, 8), entry(high+1, 7), entry(most, 0), entry(most, mostA-1)),
		of(1<<31+1, entry(256, 1<<31), entry(257, 255), entry(1<<32, 256)),
	}
	for _, rule := range rules() {
		for _, n := range []int{1, 2, 15, 16, 17, 31, 32, 33, 48, 100} {
			l = append(l, of(uint32(3*n), by(n, rule)...))
		}
	}
	return l
}

// wrong are footers that may not be, and why.
func wrong() []struct {
	f footer.Footer
	e api.Errno
} {
	many := by(40, rules()[0])
	fall := slices.Clone(many)
	fall[15], fall[16] = fall[16], fall[15]
	return []struct {
		f footer.Footer
		e api.Errno
	}{
		{of(0), api.ErrForm},
		{of(1), api.ErrForm},
		{of(mostA), api.ErrForm},
		{of(9, []table.Entry{}...), api.ErrForm},
		{footer.Footer{Used: 9, Table: []table.Entry{}}, api.ErrForm},
		{footer.Footer{Used: 9, Table: []table.Entry{entry(1, 1)}[:0]}, api.ErrForm},
		{of(9, entry(1, 1), entry(1, 1)), api.ErrOrder},
		{of(9, entry(2, 1), entry(1, 1)), api.ErrOrder},
		{of(9, entry(1, 2), entry(1, 1)), api.ErrOrder},
		{of(9, entry(2, 1), entry(1, 2)), api.ErrOrder},
		{of(9, entry(most, 0), entry(0, 8)), api.ErrOrder},
		{of(9, entry(high, 0), entry(high-1, 0)), api.ErrOrder},
		{of(9, entry(1, 1), entry(2, 2), entry(3, 3), entry(3, 3)), api.ErrOrder},
		{of(9, entry(1, 1), entry(1, 1), entry(2, 2), entry(3, 3)), api.ErrOrder},
		{of(9, entry(1, 1), entry(3, 3), entry(2, 2), entry(4, 4)), api.ErrOrder},
		{of(1000, fall...), api.ErrOrder},
		{of(0, entry(0, 0)), api.ErrForm},
		{of(9, entry(1, 9)), api.ErrForm},
		{of(9, entry(1, 10)), api.ErrForm},
		{of(9, entry(1, mostA)), api.ErrForm},
		{of(mostA, entry(1, mostA)), api.ErrForm},
		{of(9, entry(1, 9), entry(2, 2), entry(3, 3)), api.ErrForm},
		{of(9, entry(1, 1), entry(2, 9), entry(3, 3)), api.ErrForm},
		{of(9, entry(1, 1), entry(2, 2), entry(3, 9)), api.ErrForm},
		{of(9, entry(1, 1), entry(1, 9), entry(3, 3)), api.ErrForm},
		{of(118, many...), api.ErrForm}, // the last one stands at it
		{of(117, many...), api.ErrForm},
		{of(1, many...), api.ErrForm}, // the first one stands at it
	}
}

// hashes are those of a footer, those next to them, and those at the ends.
func hashes(f footer.Footer) []uint64 {
	l := []uint64{0, 1, 2, math.MaxUint32, math.MaxUint32 + 1, high - 1, high, high + 1, most - 1, most}
	for _, x := range f.Table {
		l = append(l, x.Hash-1, x.Hash, x.Hash+1)
	}
	slices.Sort(l)
	return slices.Compact(l)
}

// some gives a footer of at most n entries, of few Hashes, so that many stand several times.
func some(r *rand.Rand, n int) footer.Footer {
	few := []uint64{0, 3, 4, high, most, r.Uint64(), r.Uint64(), r.Uint64()}[:1+r.IntN(8)]
	var l []table.Entry
	for range 1 + r.IntN(n) {
		l = append(l, entry(few[r.IntN(len(few))], uint32(r.IntN(500))))
	}
	return of(500, table.Sorted(l)...)
}
