package wide_test

import (
	"testing"

	"fascicle/wide"
)

// told tells where a state's answers are others than they ought to be; each is asked twice, for asking may not change what is told.
func told(t *testing.T, s *wide.State, seed int, size int) {
	t.Helper()
	for range 2 {
		if got := s.Len(); got != uint64(size) {
			t.Fatalf("with %d bytes by the seed %016x: Len %d", size, seeds[seed], got)
		}
		if got := s.Sum(); got != sums[size][seed] {
			t.Fatalf("with %d bytes by the seed %016x: %016x; it ought to be %016x", size, seeds[seed], got, sums[size][seed])
		}
	}
}

// P4.1: New has no bytes, by whatever seed.
func TestNew(t *testing.T) {
	for i, seed := range seeds {
		told(t, wide.New(seed), i, 0)
	}
}

// P4.1: bytes of each length, all at once.
func TestWriteAllAtOnce(t *testing.T) {
	for size := range sums {
		for i, seed := range seeds {
			told(t, wide.New(seed).Write(sample(size)), i, size)
		}
	}
}

// P4.1: Write answers the state itself, whatever is written.
func TestWriteAnswersTheState(t *testing.T) {
	s := wide.New(3)
	for _, size := range []int{0, 1, 0, 30, 1, 0, 32, 5, 27, 64, 100, 1} {
		if s.Write(sample(size)) != s {
			t.Errorf("behind %d bytes it is another state", size)
		}
	}
	if s.Write(nil) != s {
		t.Error("behind nil it is another state")
	}
}

// P4.1, R4: no bytes change nothing, nil as well as empty ones, at each place.
func TestWriteOfNothing(t *testing.T) {
	b := sample(len(sums) - 1)
	s := wide.New(seeds[3])
	for size := range sums {
		told(t, s.Write(nil), 3, size)
		told(t, s.Write([]byte{}), 3, size)
		told(t, s.Write(b[size:size]), 3, size)
		if size < len(b) {
			s.Write(b[size : size+1])
		}
	}
}

// P4.2: in parts of one length each, those beside a block's length and its multiples, too, told behind each part.
func TestPartsOfOneLength(t *testing.T) {
	b := sample(len(sums) - 1)
	for length := 1; length <= len(b); length++ {
		for i, seed := range seeds {
			s := wide.New(seed)
			for at := 0; at < len(b); at += length {
				end := min(at+length, len(b))
				told(t, s.Write(b[at:end]), i, end)
			}
		}
	}
}

// P4.2: in two parts, of each length cut at each place.
func TestTwoParts(t *testing.T) {
	for size := range sums {
		b := sample(size)
		for cut := range size + 1 {
			i := cut % len(seeds)
			told(t, wide.New(seeds[i]).Write(b[:cut]).Write(b[cut:]), i, size)
		}
	}
}

// P4.2: in three parts, cut at each two places: a part in the middle may end a block, leave it open, or have several.
func TestThreeParts(t *testing.T) {
	for _, size := range []int{31, 32, 33, 64, 97, 130} {
		b := sample(size)
		for first := range size + 1 {
			for second := first; second <= size; second++ {
				s := wide.New(seeds[1]).Write(b[:first])
				told(t, s, 1, first)
				told(t, s.Write(b[first:second]), 1, second)
				told(t, s.Write(b[second:]), 1, size)
			}
		}
	}
}

// P4.2: in parts of lengths that change, so that many blocks begin in one part and end in another.
func TestManyParts(t *testing.T) {
	b := make([]byte, 100000)
	for i := range b {
		b[i] = byte(i * i >> 3)
	}
	for _, lengths := range [][]int{{1}, {31}, {32}, {33}, {5, 320, 0, 27}, {1, 31, 64, 2, 63, 95, 97}, {4096}, {4095, 2, 33333}, {99999}, {100000}} {
		s := wide.New(77)
		for at, i := 0, 0; at < len(b); i++ {
			end := min(at+lengths[i%len(lengths)], len(b))
			s.Write(b[at:end])
			at = end
		}
		if s.Sum() != 0x519c954d579f1eeb || s.Len() != uint64(len(b)) {
			t.Errorf("in parts of %v: %016x, %d", lengths, s.Sum(), s.Len())
		}
	}
}

// P4.2: asking on the way or not comes to the same.
func TestUnasked(t *testing.T) {
	b := sample(len(sums) - 1)
	s := wide.New(seeds[4])
	for i := range b {
		s.Write(b[i : i+1])
	}
	told(t, s, 4, len(b))
}

// R5: what is told of one state isn't told of another one, by the same seed and by another.
func TestStatesSideBySide(t *testing.T) {
	b := sample(len(sums) - 1)
	fast, slow, other, empty := wide.New(seeds[0]), wide.New(seeds[0]), wide.New(seeds[4]), wide.New(seeds[0])
	for i := range 65 {
		fast.Write(b[2*i : 2*i+2])
		slow.Write(b[i : i+1])
		other.Write(b[2*i : 2*i+1]).Write(b[2*i+1 : 2*i+2])
		wide.Sum(seeds[2], b)
		told(t, fast, 0, 2*i+2)
		told(t, slow, 0, i+1)
		told(t, other, 4, 2*i+2)
		told(t, empty, 0, 0)
	}
}
