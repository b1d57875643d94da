package fold_test

import (
	"fmt"
	"math"
	"math/rand/v2"
	"slices"
	"strings"
	"testing"

	"fascicle/api"
	"fascicle/fold"
)

// The model goes through a row forwards, record by record and key by key, with no map and no sort of the library.

// put gives a record.
func put(seq uint64, key, value string) api.Record {
	return api.Record{Seq: seq, Key: key, Value: value}
}

// gone gives a record that deletes.
func gone(seq uint64, key string) api.Record {
	return api.Record{Delete: true, Seq: seq, Key: key}
}

// odd gives a record that deletes, but has a text all the same.
func odd(seq uint64, key, text string) api.Record {
	return api.Record{Delete: true, Seq: seq, Key: key, Value: text}
}

// below tells whether a text is below another one, byte by byte.
func below(a, b string) bool {
	for i := 0; i < len(a) && i < len(b); i++ {
		if a[i] != b[i] {
			return a[i] < b[i]
		}
	}
	return len(a) < len(b)
}

// modelLast gives the last record of a key, or none.
func modelLast(l []api.Record, key string) (last api.Record, has bool) {
	for _, r := range l {
		if r.Key == key {
			last, has = r, true
		}
	}
	return last, has
}

// modelAt gives what a key is.
func modelAt(l []api.Record, key string) (kind fold.Kind, value string) {
	for _, r := range l {
		switch {
		case r.Key != key:
		case r.Delete:
			kind, value = 1, ""
		default:
			kind, value = 2, r.Value
		}
	}
	return kind, value
}

// modelKeys puts each key ahead of the first one that is above it, if it isn't there yet.
func modelKeys(l []api.Record) []string {
	var keys []string
	for _, r := range l {
		i := 0
		for i < len(keys) && below(keys[i], r.Key) {
			i++
		}
		if i == len(keys) || keys[i] != r.Key {
			keys = slices.Insert(keys, i, r.Key)
		}
	}
	return keys
}

// modelLive gives of each key that has a value its last record.
func modelLive(l []api.Record) []api.Record {
	var live []api.Record
	for _, key := range modelKeys(l) {
		if r, _ := modelLast(l, key); !r.Delete {
			live = append(live, r)
		}
	}
	return live
}

// modelCompact drops a record when another one of its key comes.
func modelCompact(l []api.Record) []api.Record {
	var kept []api.Record
	for _, r := range l {
		kept = slices.DeleteFunc(kept, func(other api.Record) bool { return other.Key == r.Key })
		kept = append(kept, r)
	}
	return kept
}

// modelSame asks for each key that one of both rows has.
func modelSame(a, b []api.Record) bool {
	for _, r := range slices.Concat(a, b) {
		kind, value := modelAt(a, r.Key)
		k, v := modelAt(b, r.Key)
		if kind != k || value != v {
			return false
		}
	}
	return true
}

// modelSorted puts each record ahead of the first one whose Seq is above its own, if its Seq isn't there yet.
func modelSorted(l []api.Record) []api.Record {
	var all []api.Record
	for _, r := range l {
		i := 0
		for i < len(all) && all[i].Seq < r.Seq {
			i++
		}
		if i == len(all) || all[i].Seq != r.Seq {
			all = slices.Insert(all, i, r)
		}
	}
	return all
}

// told is what is told of one key.
type told struct {
	kind  fold.Kind
	value string
	last  api.Record
	has   bool
}

// answers is all that is told of a row, and of these keys in it.
type answers struct {
	keys                  []string
	live, compact, sorted []api.Record
	told                  []told
}

// ask asks for all of them.
func ask(l []api.Record, keys []string) answers {
	x := answers{keys: fold.Keys(l), live: fold.Live(l), compact: fold.Compact(l), sorted: fold.Sorted(l)}
	for _, key := range keys {
		var one told
		one.kind, one.value = fold.At(l, key)
		one.last, one.has = fold.Last(l, key)
		x.told = append(x.told, one)
	}
	return x
}

// modelOf gives what ought to be told.
func modelOf(l []api.Record, keys []string) answers {
	x := answers{keys: modelKeys(l), live: modelLive(l), compact: modelCompact(l), sorted: modelSorted(l)}
	for _, key := range keys {
		var one told
		one.kind, one.value = modelAt(l, key)
		one.last, one.has = modelLast(l, key)
		x.told = append(x.told, one)
	}
	return x
}

// expectAnswers holds all against what it ought to be.
func expectAnswers(t *testing.T, what string, got, want answers) {
	t.Helper()
	if !slices.Equal(got.keys, want.keys) {
		t.Errorf("%s: keys %.200q, not %.200q", what, got.keys, want.keys)
	}
	expectRecords(t, what+": live", got.live, want.live)
	expectRecords(t, what+": compact", got.compact, want.compact)
	expectRecords(t, what+": sorted", got.sorted, want.sorted)
	if !slices.Equal(got.told, want.told) {
		t.Errorf("%s: of keys %.200q, not %.200q", what, fmt.Sprint(got.told), fmt.Sprint(want.told))
	}
}

// expectRecords holds records against what they ought to be.
func expectRecords(t *testing.T, what string, got, want []api.Record) {
	t.Helper()
	if !slices.Equal(got, want) {
		t.Errorf("%s: %s, not %s", what, tell(got), tell(want))
	}
}

// expectAt holds what is told of a key against what it ought to be.
func expectAt(t *testing.T, l []api.Record, key string, kind fold.Kind, value string) {
	t.Helper()
	if k, v := fold.At(l, key); k != kind || v != value {
		t.Errorf("of %s: %.20q is %d, %.20q, not %d, %.20q", tell(l), key, k, v, kind, value)
	}
}

// tell tells records.
func tell(l []api.Record) string {
	var text strings.Builder
	for _, r := range l[:min(len(l), 8)] {
		fmt.Fprintf(&text, "(%v %d %.10q %.10q) ", r.Delete, r.Seq, r.Key, r.Value)
	}
	return fmt.Sprintf("%s%d in all", text.String(), len(l))
}

// example is the chapter's.
func example() []api.Record {
	return []api.Record{put(1, "a", "x"), put(2, "b", "y"), gone(3, "a")}
}

// wellKnown are keys of which some are in most rows, and some in none.
func wellKnown() []string {
	return []string{
		"", "a", "b", "c", "ab", "abc", "abd", "A", "aa", "key", "keys", "\x00", "a\x00", "a\x00b", "\x7f", "\x80", "\xc3", "\xc3\xa4", "\xff", "\xff\xff", "z",
		strings.Repeat("k", 4096), strings.Repeat("k", 4097), strings.Repeat("k", 4095) + "\xff",
	}
}

// beginnings are rows whose keys are empty, one another's beginnings, and have any bytes.
func beginnings() []api.Record {
	var l []api.Record
	for i, key := range wellKnown() {
		l = append(l, put(uint64(100-i), key, strings.Repeat("v", i)))
	}
	return l
}

// rows are ordinary rows and those at the edges.
func rows() [][]api.Record {
	all := [][]api.Record{
		nil, {},
		{put(1, "a", "x")}, {put(0, "", "")}, {gone(1, "a")}, {gone(0, "")}, {odd(7, "a", "text")}, {put(math.MaxUint64, "a", "")},
		example(),
		{put(9, "a", "1"), put(5, "a", "2"), put(1, "a", "3")},                                 // falling
		{put(5, "a", "1"), put(9, "b", "2"), put(1, "a", "3"), put(7, "c", "4")},               // mixed
		{put(5, "a", "1"), put(5, "b", "2"), put(5, "a", "3"), gone(5, "b")},                   // all the same
		{gone(1, "a"), put(2, "a", "x"), put(3, "b", "y")},                                     // deletes first
		{put(1, "a", "x"), gone(2, "a"), put(3, "a", "z")},                                     // in the midst
		{put(1, "a", "x"), put(2, "b", "y"), gone(3, "b"), gone(4, "a")},                       // last
		{put(1, "a", "x"), put(2, "a", "")},                                                    // an empty value
		{odd(1, "a", "x"), put(2, "b", "y"), odd(3, "b", "y"), odd(4, "c", "z"), gone(5, "c")}, // texts of what is deleted
		{put(math.MaxUint64, "a", "1"), put(0, "b", "2"), put(math.MaxUint64-1, "c", "3"), put(1<<63, "d", "4"), put(1<<63-1, "e", "5"), put(math.MaxUint64, "f", "6"), put(0, "g", "7")},
		beginnings(),
		many(1), many(17), many(300),
	}
	back := beginnings()
	slices.Reverse(back)
	return append(all, back, slices.Concat(beginnings(), back), slices.Concat(beginnings(), example(), beginnings()))
}

// many gives n records with keys that come again, by Seqs that rise and fall.
func many(n int) []api.Record {
	var l []api.Record
	for i := range n {
		r := put(uint64(i*7919%97), fmt.Sprint("key", i*31%41), fmt.Sprint(i))
		r.Delete = i%5 == 3
		l = append(l, r)
	}
	return l
}

// few are records of which all short rows are made: three keys, two Seqs, and what can be said of a key.
func few() []api.Record {
	var l []api.Record
	for _, key := range []string{"", "a", "ab"} {
		l = append(l, put(1, key, ""), put(2, key, "x"), gone(1, key), odd(2, key, "x"))
	}
	return l
}

// eachShort hands on each row of at most n of these records, until a test has failed: one row tells enough.
func eachShort(t *testing.T, l []api.Record, n int, use func([]api.Record)) {
	t.Helper()
	var grow func(row []api.Record)
	grow = func(row []api.Record) {
		if t.Failed() {
			return
		}
		use(row)
		if len(row) == n {
			return
		}
		for _, r := range l {
			grow(append(slices.Clip(row), r))
		}
	}
	grow(nil)
}

// dice gives a row of n records with few keys and Seqs, by this seed.
func dice(seed uint64, n int) []api.Record {
	random := rand.New(rand.NewPCG(seed, 18))
	keys := wellKnown()
	var l []api.Record
	for range n {
		r := put(uint64(random.IntN(n+1)), keys[random.IntN(len(keys))], strings.Repeat("v", random.IntN(3)))
		r.Delete = random.IntN(3) == 0
		if random.IntN(10) == 0 {
			r.Seq = math.MaxUint64 - r.Seq
		}
		l = append(l, r)
	}
	return l
}
