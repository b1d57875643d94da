package lookup_test

import (
	"fmt"
	"math"
	"math/rand/v2"
	"strings"
	"testing"

	"fascicle/api"
	"fascicle/fold"
	"fascicle/image"
	"fascicle/lookup"
	"fascicle/table"
)

// The chapter's example: of no bytes, nil and empty, each key is Absent, and it took nothing, by each config that may be.
func TestOfNoBytes(t *testing.T) {
	for _, c := range append(configs(), config(12, 1), config(24, 1), config(24, 65536)) {
		for _, b := range [][]byte{nil, {}, make([]byte, 0, 4096), make([]byte, 8)[8:]} {
			for _, key := range strangers() {
				kind, value, cost, e := lookup.Look(c, b, key)
				if kind != fold.Absent || value != "" || cost != (lookup.Cost{}) || e != api.OK {
					t.Errorf("by %v Look of %.20q tells %d, %q, %v, %d", c, key, kind, value, cost, e)
				}
				if kind, value, e = lookup.Get(c, b, key); kind != fold.Absent || value != "" || e != api.OK {
					t.Errorf("by %v Get of %.20q tells %d, %q, %d", c, key, kind, value, e)
				}
			}
			if l, e := lookup.All(c, b); len(l) != 0 || e != api.OK {
				t.Errorf("by %v All tells %s, %d", c, tell(l), e)
			}
		}
	}
}

// rows are rows of records that have an image by each of configs: some of them go into several segments.
func rows() [][]api.Record {
	_, l := three()
	long := strings.Repeat("k", 3900)
	all := [][]api.Record{
		nil,
		{},
		{put(1, "a", "b")},
		{put(0, "a", "")},
		{gone(1, "a")},
		{put(math.MaxUint64, "a", "x")},
		{put(0, "a", "x"), put(math.MaxUint64, "a", "y")},
		{put(1, "a", "x"), put(2, "b", "y"), gone(3, "a")},              // deletes last
		{put(1, "a", "x"), gone(2, "a"), put(3, "a", "z")},              // deletes in the midst
		{gone(1, "a"), put(2, "b", ""), put(3, "a", "")},                // deletes first
		{put(1, "a", "x"), put(2, "a", "")},                             // an empty value
		{put(1, "a", "1"), put(2, "ab", "2"), put(3, "abc", "3")},       // one another's beginnings
		{put(1, "abc", "1"), put(2, "ab", "2"), gone(3, "a")},           // likewise
		{put(1, long, "v"), put(2, "v", of(3900)), gone(3, long)},       // one in each segment
		{put(1, "a", of(3500)), gone(2, "a"), put(3, "b", of(3500))},    // deletes in a sealed segment
		{put(1, "a", of(3500)), put(2, "a", ""), put(3, "b", of(3500))}, // an empty value in a sealed one
		{gone(1, "a"), put(2, "b", of(3900)), put(3, "a", of(3900))},    // a value behind it
		{put(1, "a", "x"), put(2, "b", of(3900)), gone(3, "a")},         // deletes behind it
		l,
	}
	for _, n := range []int{2, 15, 16, 17, 33, 100, 141, 200} {
		all = append(all, many(n), again(n, 7), again(n, 40))
	}
	for _, n := range []int{2, 3, 4, 5} {
		all = append(all, great(n))
	}
	return all
}

// configs are some by which each of rows has an image.
func configs() []api.Config {
	return []api.Config{config(12, 5), config(12, 300), config(12, 65536), config(13, 4), config(14, 20000), config(16, 1), config(16, 65536)}
}

// P19.1, P19.2: of each key of a row, and of keys that it doesn't have, what it is by all its records, and what that took: in no segment, in one, in two and in several.
func TestOfImages(t *testing.T) {
	seen := map[uint32]bool{}
	for _, c := range configs() {
		for _, l := range rows() {
			expectImage(t, "an image", c, l, keysOf(l))
			n, _ := image.Segments(c, l)
			seen[n] = true
		}
	}
	for n := range uint32(6) {
		if !seen[n] {
			t.Errorf("no image of %d segments was asked", n)
		}
	}
}

// P19.1, P19.2: each beginning of a row has an image of its own, by whose last record a key is something else than ahead of it.
func TestOfEachBeginning(t *testing.T) {
	c, l := three()
	keys := keysOf(l)
	for n := range len(l) + 1 {
		expectImage(t, "a beginning", c, l[:n], keys)
	}
}

// P19.1, P19.2: a key that was put, put again, deleted and put once more, each time into a segment of its own.
func TestOneKeyInManySegments(t *testing.T) {
	c := config(12, 65536)
	fill := func(seq uint64) api.Record { return put(seq, fmt.Sprint("fill ", seq), of(3500)) }
	var l []api.Record
	for seq := uint64(1); seq < 60; seq += 2 {
		one := put(seq, "k", fmt.Sprint(seq))
		switch seq % 3 {
		case 1:
			one = gone(seq, "k")
		case 2:
			one.Value = ""
		}
		l = append(l, one, fill(seq+1))
		expectImage(t, "once more", c, l, []string{"k", "", "fill 2", "fill 40", "fill 1"})
	}
	for seq := uint64(61); seq < 100; seq++ {
		l = append(l, fill(seq))
	}
	expectImage(t, "many segments behind it", c, l, []string{"k", "fill 2", "fill 1", "fill 99"})
}

// P19.1, P19.2: many segments with many keys each, so that their tables have many fences.
func TestManyKeys(t *testing.T) {
	for _, c := range []api.Config{config(12, 65536), config(14, 65536), config(17, 9)} {
		for _, l := range [][]api.Record{many(1500), again(1500, 400)} {
			var keys []string
			for i, key := range keysOf(l) {
				if i%7 == 3 { // neither of a number of keys that is a block's, nor one kind of keys alone
					keys = append(keys, key)
				}
			}
			expectImage(t, "many keys", c, l, keys)
		}
	}
}

// P19.1: more segments than a number of one byte tells, and the greatest ones.
func TestManyAndGreatSegments(t *testing.T) {
	l := great(300)
	l[0].Key, l[140].Key = "first", "midst"
	expectImage(t, "many segments", config(12, 300), l, []string{"first", "midst", "k0", "k6", "nobody"})
	value := strings.Repeat("\x00", 1<<20)
	l = nil
	for i := range 20 {
		l = append(l, put(uint64(i), fmt.Sprint(i%18)+strings.Repeat("k", 4090), value[i:]))
	}
	expectImage(t, "great segments", config(24, 65536), l, []string{l[0].Key, l[2].Key, l[17].Key, "nobody"})
}

// P19.1, P19.2: keys that aren't the same, but have one Hash.
func TestTwins(t *testing.T) {
	keys := twins(300)
	for i, key := range keys {
		if table.Hash(key) != table.Hash(keys[0]) || i > 0 && key == keys[0] || len(key) != 64 {
			t.Fatalf("%q is no twin of %q", key, keys[0])
		}
	}
	for _, n := range []int{1, 2, 3, 15, 16, 17, 50, 250} {
		var l []api.Record
		for i, key := range keys[:n] {
			l = append(l, put(uint64(2*i), key, fmt.Sprint(i)), put(uint64(2*i+1), fmt.Sprint(i), "other"))
		}
		once := append(l, put(1000, "last", of(3900)))
		twice := append(l, put(1000, keys[0], "again"), gone(1001, keys[n/2]), put(1002, keys[0], ""), put(1003, "last", of(3900)))
		for _, c := range []api.Config{config(12, 65536), config(13, 65536), config(15, 65536)} {
			expectImage(t, "twins", c, l, keys)
			expectImage(t, "twins in sealed segments", c, once, keys)
			expectImage(t, "twins that come again", c, twice, keys)
		}
	}
}

// P5, P19.1, P19.2: of any records that rise.
func TestOfAnyImages(t *testing.T) {
	r := rand.New(rand.NewPCG(19, 1))
	for round := range 300 {
		c := config(uint8(12+r.IntN(3)), uint32(100+r.IntN(300)))
		l := rising(r, r.IntN(150), []int{1, 20, 300, 1900}[round%4])
		expectImage(t, "any records", c, l, append(keysOf(l), twins(4)...))
	}
}
