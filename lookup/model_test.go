package lookup_test

import (
	"encoding/binary"
	"fmt"
	"math/bits"
	"math/rand/v2"
	"slices"
	"strings"
	"testing"

	"fascicle/api"
	"fascicle/fold"
	"fascicle/image"
	"fascicle/lookup"
	"fascicle/table"
)

// The model goes by the records alone, forwards and key by key, and by where package image says that each of them stands; it reads no byte of an image.

// config gives a config.
func config(exp uint8, segments uint32) api.Config {
	return api.Config{Exp: exp, Segments: segments}
}

// put gives a record.
func put(seq uint64, key, value string) api.Record {
	return api.Record{Seq: seq, Key: key, Value: value}
}

// gone gives a record that is deleted.
func gone(seq uint64, key string) api.Record {
	return api.Record{Delete: true, Seq: seq, Key: key}
}

// of gives a text of n bytes.
func of(n int) string {
	return strings.Repeat("v", n)
}

// sizeOf gives the bytes of a segment.
func sizeOf(c api.Config) int {
	return 1 << c.Exp
}

// below tells whether a text is below another one, byte by byte.
func below(a, b string) bool {
	for i := 0; i < len(a) && i < len(b); i++ {
		if a[i] != b[i] {
			return a[i] < b[i]
		}
	}
	return len(a) < len(b)
}

// encode gives the image of records that have one.
func encode(t *testing.T, c api.Config, l []api.Record) []byte {
	t.Helper()
	b, e := image.Encode(c, l)
	if e != api.OK {
		t.Fatalf("by %v %s have no image: %d", c, tell(l), e)
	}
	return b
}

// placesOf gives where each record stands.
func placesOf(t *testing.T, c api.Config, l []api.Record) []image.Place {
	t.Helper()
	places, e := image.Places(c, l)
	if e != api.OK {
		t.Fatalf("by %v %s have no places: %d", c, tell(l), e)
	}
	return places
}

// told is what is told of one key.
type told struct {
	kind  fold.Kind
	value string
	cost  lookup.Cost
	e     api.Errno
}

// answers is all that is told of bytes, and of these keys in them.
type answers struct {
	look, get []told // what Get tells has no cost
	all       []api.Record
	eAll      api.Errno
}

// ask asks for all of them.
func ask(c api.Config, b []byte, keys []string) answers {
	var x answers
	for _, key := range keys {
		var one, other told
		one.kind, one.value, one.cost, one.e = lookup.Look(c, b, key)
		other.kind, other.value, other.e = lookup.Get(c, b, key)
		x.look = append(x.look, one)
		x.get = append(x.get, other)
	}
	x.all, x.eAll = lookup.All(c, b)
	return x
}

// modelOf gives what ought to be told of the image of records.
func modelOf(t *testing.T, c api.Config, l []api.Record, keys []string) answers {
	t.Helper()
	places := placesOf(t, c, l)
	x := answers{all: modelAll(l)}
	for _, key := range keys {
		one := modelTold(l, places, key)
		x.look = append(x.look, one)
		one.cost = lookup.Cost{}
		x.get = append(x.get, one)
	}
	return x
}

// modelTold gives what a key is by its last record, and what it takes to find that from the last segment on.
func modelTold(l []api.Record, places []image.Place, key string) told {
	var x told
	if len(l) == 0 {
		return x
	}
	final, from, segment := places[len(l)-1].Segment, 0, uint32(0) // if none tells, all are looked at
	for i, r := range l {
		switch {
		case r.Key != key:
			continue
		case r.Delete:
			x.kind, x.value = 1, ""
		default:
			x.kind, x.value = 2, r.Value
		}
		from, segment = i, places[i].Segment
	}
	x.cost.Segments = int(final-segment) + 1
	x.cost.Footers = int(final - segment)
	hash := table.Hash(key)
	for i := from; i < len(l) && places[i].Segment < final; i++ {
		if table.Hash(l[i].Key) == hash {
			x.cost.Frames++
		}
	}
	return x
}

// modelAll puts each record into the place of the one of its key, or ahead of the first one whose key is above.
func modelAll(l []api.Record) []api.Record {
	var all []api.Record
	for _, r := range l {
		i := 0
		for i < len(all) && below(all[i].Key, r.Key) {
			i++
		}
		if i == len(all) || all[i].Key != r.Key {
			all = slices.Insert(all, i, r)
		}
		all[i] = r
	}
	return all
}

// expectAnswers holds all against what it ought to be.
func expectAnswers(t *testing.T, what string, keys []string, got, want answers) {
	t.Helper()
	for i, key := range keys {
		if got.look[i] != want.look[i] {
			t.Errorf("%s: Look of %.20q tells %s, not %s", what, key, got.look[i], want.look[i])
		}
		if got.get[i] != want.get[i] {
			t.Errorf("%s: Get of %.20q tells %s, not %s", what, key, got.get[i], want.get[i])
		}
	}
	if got.eAll != want.eAll || !slices.Equal(got.all, want.all) {
		t.Errorf("%s: All tells %s, %d, not %s, %d", what, tell(got.all), got.eAll, tell(want.all), want.eAll)
	}
}

// expectImage holds all that is told of the records' image against the model, and against what the records come to (chapter 18).
func expectImage(t *testing.T, what string, c api.Config, l []api.Record, keys []string) {
	t.Helper()
	x := ask(c, encode(t, c, l), keys)
	expectAnswers(t, fmt.Sprintf("%s by %v of %s", what, c, tell(l)), keys, x, modelOf(t, c, l, keys))
	for i, key := range keys {
		if kind, value := fold.At(l, key); x.get[i] != (told{kind: kind, value: value}) {
			t.Errorf("%s by %v: Get of %.20q tells %s; by all records it is %d, %.20q", what, c, key, x.get[i], kind, value)
		}
	}
	if live := fold.Live(l); !slices.Equal(slices.DeleteFunc(x.all, func(r api.Record) bool { return r.Delete }), live) {
		t.Errorf("%s by %v: All has other values than Live, which tells %s", what, c, tell(live))
	}
}

// expectError holds all that is told against an error, beside which there is nothing.
func expectError(t *testing.T, what string, c api.Config, b []byte, e api.Errno) {
	t.Helper()
	keys := []string{"", "a", "k", "key 1", "nobody"}
	want := answers{look: slices.Repeat([]told{{e: e}}, len(keys)), get: slices.Repeat([]told{{e: e}}, len(keys)), eAll: e}
	expectAnswers(t, fmt.Sprintf("%s by %v of %d bytes", what, c, len(b)), keys, ask(c, b, keys), want)
}

// String tells it.
func (x told) String() string {
	return fmt.Sprintf("(%d, %.10q of %d bytes, %v, %d)", x.kind, x.value, len(x.value), x.cost, x.e)
}

// tell tells records, or how they begin.
func tell(l []api.Record) string {
	var text strings.Builder
	for _, r := range l[:min(len(l), 4)] {
		fmt.Fprintf(&text, "(%v %d %.10q %d bytes) ", r.Delete, r.Seq, r.Key, len(r.Value))
	}
	return fmt.Sprintf("%s%d in all", text.String(), len(l))
}

// twins gives n keys of 64 bytes and of one Hash: a key's second 32 bytes bring one of the four sums back to what it is with another key (chapter 4), each by a number of their own.
func twins(n int) []string {
	const first, second = 0x9E3779B185EBCA87, 0xC2B2AE3D27D4EB4F
	inverse := uint64(second) // of a product that goes round at 2^64: each step doubles how many of its bits hold
	for range 6 {
		inverse *= 2 - second*inverse
	}
	var keys []string
	for i := range uint64(n) {
		word := "number" + string([]byte{byte(i >> 8), byte(i)})
		x := binary.LittleEndian.Uint64([]byte(word))
		sum := bits.RotateLeft64(x*second, 31) * first // the third sum begins with 0
		back := binary.LittleEndian.AppendUint64(nil, -sum*inverse)
		keys = append(keys, strings.Repeat("t", 16)+word+strings.Repeat("w", 24)+string(back)+strings.Repeat("n", 8))
	}
	return keys
}

// strangers are keys that most rows don't have.
func strangers() []string {
	return []string{
		"", "nobody", "\x00", "\xff", "a\x00", "kk", "key", "key ", "key 1 ", of(4095), of(4096), of(4097), of(1 << 20),
		strings.Repeat("k", 4096), strings.Repeat("k", 4097), twins(300)[299],
	}
}

// keysOf gives the keys of a row, of each the beginning and what begins with it, and strangers.
func keysOf(l []api.Record) []string {
	seen := map[string]bool{}
	for _, r := range l {
		for _, key := range []string{r.Key, r.Key + "\x00", r.Key[:len(r.Key)-1]} {
			seen[key] = true
		}
	}
	for _, key := range strangers() {
		seen[key] = true
	}
	var keys []string
	for key := range seen {
		keys = append(keys, key)
	}
	slices.Sort(keys)
	return keys
}

// many gives n small records that rise, of as many keys.
func many(n int) []api.Record {
	var l []api.Record
	for i := range n {
		l = append(l, put(uint64(i+1), fmt.Sprint("key ", i), fmt.Sprint(i)))
	}
	return l
}

// again gives n small records that rise, of few keys that come again and again; some of them are deleted.
func again(n, few int) []api.Record {
	l := many(n)
	for i := range l {
		l[i].Key = fmt.Sprint("key ", i*31%few)
		if i%5 == 3 {
			l[i].Delete, l[i].Value = true, ""
		}
	}
	return l
}

// great gives n records that rise, one of which fills a segment by Exp 12.
func great(n int) []api.Record {
	value := of(3500)
	var l []api.Record
	for i := range n {
		l = append(l, put(uint64(i+1), fmt.Sprint("k", i%7), value[i%9:]))
	}
	return l
}

// rising gives n records that rise, of few keys, some of them deleted.
func rising(r *rand.Rand, n, most int) []api.Record {
	keys := append(twins(3), "a", "ab", "abc", "b", "\x00", "\xff", text(r, 1+r.IntN(9)), text(r, 1+r.IntN(300)))
	var l []api.Record
	seq, step := uint64(r.IntN(3)), uint64(1)<<r.IntN(40)
	for range n {
		x := put(seq, keys[r.IntN(len(keys))], text(r, r.IntN(most)))
		if r.IntN(4) == 0 {
			x.Delete, x.Value = true, ""
		}
		l = append(l, x)
		seq += 1 + r.Uint64N(step)
	}
	return l
}

// text gives n bytes, many of them noughts, Erased, or the same.
func text(r *rand.Rand, n int) string {
	b := make([]byte, n)
	few := []byte{0, 255, 1, byte(r.IntN(256)), byte(r.IntN(256))}
	for i := range b {
		b[i] = few[r.IntN(len(few))]
	}
	return string(b)
}

// three gives a config and records whose image has three segments, each with several records.
func three() (api.Config, []api.Record) {
	l := []api.Record{
		put(1, "a", of(1200)), put(2, "b", ""), gone(3, "a"), put(5, "c", of(1200)), put(8, "d\x00", strings.Repeat("\x00", 1100)),
		put(9, "a", of(2000)), put(70, "\xff", strings.Repeat("\xff", 1500)), gone(71, "c"), put(72, "\xff", ""),
		put(1<<40, "e", of(2500)), gone(1<<41, "e"), put(1<<63, "f", "last"),
	}
	return config(12, 5), l
}
