package edge_test

import (
	"cmp"
	"math"
	"math/rand/v2"
	"testing"

	"fascicle/edge"
)

// wantOrder gives how two places of the row stand: by their keys, as they are written down there.
func wantOrder(i, k int) int {
	if i >= firstNaN && k >= firstNaN {
		return 0
	}
	return cmp.Compare(i, k)
}

// P6.1, P7: Compare, Same and Key over every pair of the row at the edges.
func TestOrderOfEachPair(t *testing.T) {
	for i, a := range row {
		for k, b := range row {
			x, y, want := a.number(), b.number(), wantOrder(i, k)
			if got := edge.Compare(x, y); got != want {
				t.Errorf("Compare of %s, %s: %d; it ought to be %d", tell(x), tell(y), got, want)
			}
			if got := edge.Same(x, y); got != (want == 0) {
				t.Errorf("Same of %s, %s: %t", tell(x), tell(y), got)
			}
			if got := cmp.Compare(edge.Key(x), edge.Key(y)); got != want {
				t.Errorf("the keys of %s, %s stand as %d; it ought to be %d", tell(x), tell(y), got, want)
			}
		}
	}
}

// P6.1: the key of each number of the row.
func TestKey(t *testing.T) {
	for _, p := range row {
		if got := edge.Key(p.number()); got != p.key {
			t.Errorf("of %s: %016x; it ought to be %016x", tell(p.number()), got, p.key)
		}
	}
}

// P6.1: from one number to the next one the key is one more, through all the edges.
func TestKeysStandSideBySide(t *testing.T) {
	for _, p := range row[:firstNaN-1] {
		x := p.number()
		for range 100 {
			next := math.Nextafter(x, math.Inf(1))
			if x == 0 && math.Signbit(x) {
				next = 0
			}
			if next == 0 && x < 0 {
				next = minus()
			}
			if edge.Key(next) != edge.Key(x)+1 || edge.Compare(x, next) != -1 || edge.Compare(next, x) != 1 || edge.Same(x, next) {
				t.Fatalf("%s, %s: the keys %016x, %016x, Compare %d", tell(x), tell(next), edge.Key(x), edge.Key(next), edge.Compare(x, next))
			}
			if x = next; x > math.MaxFloat64 {
				break
			}
		}
	}
}

// P6.1: Of of each key of the row has its number's bits, of a NaN's those that are written.
func TestOf(t *testing.T) {
	for i, p := range row {
		want := p.bits
		if i >= firstNaN {
			want = canonical
		}
		if got := math.Float64bits(edge.Of(p.key)); got != want {
			t.Errorf("of %016x: %016x; it ought to be %016x", p.key, got, want)
		}
		if got := math.Float64bits(edge.Of(edge.Key(p.number()))); got != want {
			t.Errorf("of the key of %016x: %016x", p.bits, got)
		}
	}
}

// P6.1: Of of a key that is no number's is a NaN, at both ends; beside them infinities stand.
func TestOfNoNumber(t *testing.T) {
	for _, key := range []uint64{
		0, 1, 0x0000000000001234, 0x0007fffffffffffe, 0x0007ffffffffffff, 0x0008000000000000, 0x000ffffffffffffe,
		0xfff0000000000001, 0xfff7ffffffffffff, 0xfff8000000000000, 0xfff8000000000001, 0xfffffffffffffffe, math.MaxUint64,
	} {
		if x := edge.Of(key); !math.IsNaN(x) || edge.Key(x) != 0xfff8000000000000 {
			t.Errorf("of %016x: %s, of which the key is %016x", key, tell(x), edge.Key(x))
		}
	}
	if low, high := edge.Of(0x000fffffffffffff), edge.Of(0xfff0000000000000); !math.IsInf(low, -1) || !math.IsInf(high, 1) {
		t.Errorf("beside them stand %s, %s", tell(low), tell(high))
	}
}

// P6.1: numbers and keys of any bits, against the order kind by kind.
func TestOrderOfAny(t *testing.T) {
	r := rand.New(rand.NewPCG(1, 6))
	for range 100000 {
		a, b := some(r), some(r)
		want := order(a, b)
		if got := edge.Compare(a, b); got != want {
			t.Fatalf("Compare of %s, %s: %d; it ought to be %d", tell(a), tell(b), got, want)
		}
		if edge.Same(a, b) != (want == 0) || cmp.Compare(edge.Key(a), edge.Key(b)) != want {
			t.Fatalf("%s, %s: Same %t, keys %016x, %016x", tell(a), tell(b), edge.Same(a, b), edge.Key(a), edge.Key(b))
		}
		if back := edge.Of(edge.Key(a)); !alike(a, back) {
			t.Fatalf("Of of the key of %s: %s", tell(a), tell(back))
		}
		key := r.Uint64()
		if x := edge.Of(key); x == x && edge.Key(x) != key {
			t.Fatalf("Of of %016x is %s, of which the key is %016x", key, tell(x), edge.Key(x))
		}
	}
}

// P6.1: the chapter's example.
func TestOrderExample(t *testing.T) {
	if got := edge.Compare(minus(), 0); got != -1 {
		t.Errorf("Compare of -0, 0: %d", got)
	}
}
