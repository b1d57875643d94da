package footer_test

import (
	"bytes"
	"fmt"
	"slices"
	"testing"

	"fascicle/api"
	"fascicle/footer"
	"fascicle/table"
)

// roomy gives a list with others behind it, in its spare room: it, and all.
func roomy[T any](l []T, others ...T) (piece, all []T) {
	all = slices.Concat(l, others)
	return all[:len(l)], all
}

// changeBytes makes each byte another one, those in the spare room, too.
func changeBytes(b []byte) {
	b = b[:cap(b)]
	for i := range b {
		b[i] ^= 85
	}
}

// changeEntries makes each entry another one, those in the spare room, too.
func changeEntries(l []table.Entry) {
	l = l[:cap(l)]
	for i := range l {
		l[i].Hash ^= 85
		l[i].At ^= 85
	}
}

// changePlaces makes each place another one, those in the spare room, too.
func changePlaces(l []uint32) {
	l = l[:cap(l)]
	for i := range l {
		l[i] ^= 85
	}
}

// all are footers that may be, and ones that may not.
func all() []footer.Footer {
	l := footers()
	for _, c := range wrong() {
		l = append(l, c.f)
	}
	return l
}

// few are some Hashes of a footer, and others.
func few(f footer.Footer) []uint64 {
	l := hashes(f)
	return slices.Concat(l[:min(len(l), 12)], l[len(l)/2:len(l)/2+1], l[len(l)-1:])
}

// told is all that is answered of a footer, and of the chunk of its body, as a text.
func told(f footer.Footer) string {
	b, e := footer.Put(f)
	got, gotE := footer.Get(chunkOf(bodyOf(f)))
	text := fmt.Sprint(footer.Check(f), b, e, got, gotE)
	for _, hash := range few(f) {
		text += fmt.Sprint(" ", footer.Places(f, hash))
	}
	return text
}

// P13.4, R4: a footer that is handed in isn't changed, its table's spare room neither, and the spare room doesn't count.
func TestFootersAreNotChanged(t *testing.T) {
	for _, f := range all() {
		want := told(of(f.Used, slices.Clip(slices.Clone(f.Table))...))
		l, room := roomy(f.Table, entry(0, 0), entry(6, 6), entry(most, mostA), entry(1, 1))
		was := slices.Clone(room)
		if told(of(f.Used, l...)) != want {
			t.Errorf("with others behind it something else is told of %s", show(f))
		}
		if !slices.Equal(room, was) {
			t.Errorf("%v was changed to %v", was, room)
		}
	}
}

// P13.4, R4: a chunk that is handed in isn't changed, its spare room neither, and the spare room doesn't count.
func TestChunksAreNotChanged(t *testing.T) {
	behind := bytes.Repeat([]byte{2, 0, 255}, 20)
	for _, f := range all() {
		chunk, room := roomy(chunkOf(bodyOf(f)), behind...)
		was := bytes.Clone(room)
		want, wantE := footerOf(bodyOf(f))
		if got, e := footer.Get(chunk); e != wantE || !same(got, want) {
			t.Errorf("with others behind its chunk %s is got as %s, %d", show(f), show(got), e)
		}
		if !bytes.Equal(room, was) {
			t.Errorf("%s was changed to %s, or what stands behind it", begin(was), begin(room))
		}
	}
}

// P13.4, R4: what was answered doesn't change when the footer does that was handed in, which isn't kept.
func TestFootersAreNotKept(t *testing.T) {
	for _, f := range footers() {
		given := of(f.Used, slices.Clone(f.Table)...)
		b, _ := footer.Put(given)
		var places [][]uint32
		for _, hash := range few(f) {
			places = append(places, footer.Places(given, hash))
		}
		changeEntries(given.Table)
		if !bytes.Equal(b, frameOf(f)) {
			t.Errorf("behind a change of %s its frame is %s", show(f), begin(b))
		}
		for i, hash := range few(f) {
			if !slices.Equal(places[i], placesOf(f, hash)) {
				t.Errorf("behind a change of %s the places of %d are %v", show(f), hash, places[i])
			}
			expectPlaces(t, given, hash)
		}
		expectCheck(t, given, checkOf(given))
	}
}

// P13.4, R4: what was got doesn't change when the chunk does, which isn't kept.
func TestChunksAreNotKept(t *testing.T) {
	for _, f := range footers() {
		chunk := chunkOf(bodyOf(f))
		got, e := footer.Get(chunk)
		changeBytes(chunk)
		if e != api.OK || !same(got, f) {
			t.Errorf("behind a change of its chunk %s is %s, %d", show(f), show(got), e)
		}
		if _, e := footer.Get(chunk); e == api.OK {
			t.Errorf("behind a change the chunk of %s is still got", show(f))
		}
	}
}

// P13.4, R4: an answer that is changed, or to which something is appended, changes neither what was handed in nor another answer.
func TestAnswersAreNewMemory(t *testing.T) {
	for _, f := range footers() {
		given, chunk := of(f.Used, slices.Clone(f.Table)...), chunkOf(bodyOf(f))
		frame, other := put(given), put(given)
		got, second := get(chunk), get(chunk)
		_ = append(frame, "more"...)
		_ = append(got.Table, entry(1, 1))
		changeBytes(frame)
		changeEntries(got.Table)
		if !bytes.Equal(other, frameOf(f)) || !bytes.Equal(put(given), frameOf(f)) || !same(given, f) {
			t.Errorf("a change of a frame of %s changed it, or another frame", show(f))
		}
		if !same(second, f) || !same(get(chunk), f) || !bytes.Equal(chunk, chunkOf(bodyOf(f))) {
			t.Errorf("a change of what was got of %s changed its chunk, or another answer", show(f))
		}
	}
}

// put gives a footer's frame.
func put(f footer.Footer) []byte {
	b, _ := footer.Put(f)
	return b
}

// get gives a chunk's footer.
func get(chunk []byte) footer.Footer {
	f, _ := footer.Get(chunk)
	return f
}

// P13.4, R4: places are new memory, too.
func TestPlacesAreNewMemory(t *testing.T) {
	for _, f := range footers() {
		given := of(f.Used, slices.Clone(f.Table)...)
		for _, hash := range few(f) {
			first, second := footer.Places(given, hash), footer.Places(given, hash)
			_ = append(first, 99)
			changePlaces(first)
			if want := placesOf(f, hash); !slices.Equal(second, want) || !slices.Equal(footer.Places(given, hash), want) || !same(given, f) {
				t.Errorf("a change of the places of %d in %s changed it, or other places", hash, show(f))
			}
		}
	}
}

// R4: nil and empty lists are the same.
func TestNilAndEmptyAreTheSame(t *testing.T) {
	for _, used := range []uint32{0, 1, mostA} {
		if a, b := told(footer.Footer{Used: used}), told(footer.Footer{Used: used, Table: []table.Entry{}}); a != b {
			t.Errorf("%s, %s", a, b)
		}
	}
}

// R5: what is answered hangs on the arguments alone: between other calls it is the same.
func TestCallsTellTheSameAgain(t *testing.T) {
	l := all()
	var first []string
	for _, f := range l {
		first = append(first, told(f))
	}
	for i := len(l) - 1; i >= 0; i-- {
		if told(l[i]) != first[i] {
			t.Errorf("of %s something else is told the second time", show(l[i]))
		}
	}
}
