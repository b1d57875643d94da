package footer_test

import (
	"math/rand/v2"
	"slices"
	"testing"

	"fascicle/api"
	"fascicle/footer"
	"fascicle/table"
)

// expectPlaces holds Places against looking at all entries.
func expectPlaces(t *testing.T, f footer.Footer, hash uint64) {
	t.Helper()
	if got, want := footer.Places(f, hash), placesOf(f, hash); !slices.Equal(got, want) {
		t.Errorf("Places of %d in %s: %v; it ought to be %v", hash, show(f), got, want)
	}
}

// P13.3: a Hash that stands once, one that stands several times, and ones that don't stand there: below all, between two, above all.
func TestPlacesOfAKnownFooter(t *testing.T) {
	f := of(100, entry(3, 20), entry(3, 60), entry(9, 40), entry(9, 41), entry(9, 99), entry(12, 0))
	for _, c := range []struct {
		hash uint64
		want []uint32
	}{
		{3, []uint32{20, 60}},
		{9, []uint32{40, 41, 99}},
		{12, []uint32{0}},
		{0, nil}, {2, nil}, {4, nil}, {8, nil}, {10, nil}, {11, nil}, {13, nil}, {most, nil},
	} {
		if got := footer.Places(f, c.hash); !slices.Equal(got, c.want) {
			t.Errorf("Places of %d: %v; it ought to be %v", c.hash, got, c.want)
		}
	}
}

// P13.3: a Hash that stands at a fence, at its end of the block ahead, and over several fences.
func TestPlacesAtFences(t *testing.T) {
	l := by(80, func(i int) uint64 { return uint64(2*i + 2) })
	for from := range 80 {
		for to := from + 1; to <= 80; to++ {
			f := of(1000, slices.Clone(l)...)
			var want []uint32
			for i := from; i < to; i++ {
				f.Table[i].Hash = l[from].Hash
				want = append(want, l[i].At)
			}
			hash := l[from].Hash
			if got := footer.Places(f, hash); !slices.Equal(got, want) {
				t.Fatalf("Places of the entries %d to %d: %v; it ought to be %v", from, to, got, want)
			}
			for _, other := range []uint64{0, hash - 2, hash - 1, hash + 1, l[to-1].Hash, l[to-1].Hash + 1, l[to-1].Hash + 2, most} {
				expectPlaces(t, f, other)
			}
		}
	}
}

// P13.3: each Hash of each footer, those next to them, and those at the ends.
func TestPlaces(t *testing.T) {
	for _, f := range footers() {
		for _, hash := range hashes(f) {
			expectPlaces(t, f, hash)
		}
	}
}

// P13.3: the keys' own Hashes.
func TestPlacesOfKeys(t *testing.T) {
	at := map[string][]uint32{}
	var l []table.Entry
	for i := range uint32(300) {
		key := string(rune('a'+i%20)) + string(rune('a'+i%7))
		at[key] = append(at[key], 7*i)
		l = append(l, entry(table.Hash(key), 7*i))
	}
	f := of(2100, table.Sorted(l)...)
	for key, want := range at {
		if got := footer.Places(f, table.Hash(key)); !slices.Equal(got, want) {
			t.Errorf("Places of %s: %v; it ought to be %v", key, got, want)
		}
	}
	if got := footer.Places(f, table.Hash("none")); len(got) != 0 {
		t.Errorf("Places of a key that isn't there: %v", got)
	}
}

// P13.3: of a footer that may not be: nothing, whatever it has of the Hash.
func TestPlacesOfFootersThatMayNotBe(t *testing.T) {
	for _, c := range wrong() {
		for _, hash := range hashes(c.f) {
			if got := footer.Places(c.f, hash); got != nil {
				t.Errorf("Places of %d in %s: %v", hash, show(c.f), got)
			}
		}
	}
	l := great(1<<20 + 1)
	for _, hash := range []uint64{0, 1 << 40, 5 << 40, most} {
		if got := footer.Places(of(mostA, l...), hash); got != nil {
			t.Errorf("Places of %d of one entry too many: %v", hash, got)
		}
	}
}

// P13.3: as many entries as may be.
func TestPlacesOfVeryMany(t *testing.T) {
	f := of(1<<20, great(1<<20)...)
	for _, i := range []uint32{0, 1, 2, 3, 15, 16, 1 << 19, 1<<20 - 3, 1<<20 - 2, 1<<20 - 1} {
		first := i / 3 * 3
		var want []uint32
		for at := first; at < min(first+3, 1<<20); at++ {
			want = append(want, at)
		}
		if got := footer.Places(f, uint64(i/3)<<40); !slices.Equal(got, want) {
			t.Errorf("Places of entry %d: %v; it ought to be %v", i, got, want)
		}
	}
	for _, hash := range []uint64{1, 1<<40 - 1, 1<<40 + 1, most} {
		if got := footer.Places(f, hash); len(got) != 0 {
			t.Errorf("Places of %d: %v", hash, got)
		}
	}
}

// P13.3: any footers; what is got has the places that were put.
func TestPlacesOfAnyFooters(t *testing.T) {
	r := rand.New(rand.NewPCG(13, 3))
	for range 1000 {
		f := some(r, 120)
		b, e := footer.Put(f)
		if e != api.OK {
			t.Fatalf("Put of %s: %d", show(f), e)
		}
		got, _ := footer.Get(b[:len(b)-1])
		for _, hash := range append(hashes(of(0, f.Table[:min(len(f.Table), 20)]...)), r.Uint64()) {
			expectPlaces(t, f, hash)
			expectPlaces(t, got, hash)
			if !slices.Equal(footer.Places(f, hash), footer.Places(got, hash)) {
				t.Errorf("what is got of %s has other places of %d", show(f), hash)
			}
		}
	}
}
