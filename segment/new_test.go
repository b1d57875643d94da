package segment_test

import (
	"bytes"
	"reflect"
	"testing"

	"fascicle/api"
	"fascicle/pack"
	"fascicle/segment"
)

// R5: a view has just the fields that the chapter gives, in this order.
func TestViewHasItsFields(t *testing.T) {
	view := reflect.TypeFor[segment.View]()
	want := []struct {
		name string
		kind reflect.Type
	}{
		{"Records", reflect.TypeFor[[]api.Record]()},
		{"At", reflect.TypeFor[[]uint32]()},
		{"Used", reflect.TypeFor[uint32]()},
		{"Sealed", reflect.TypeFor[bool]()},
	}
	if view.NumField() != len(want) {
		t.Fatalf("a view has %d fields", view.NumField())
	}
	for i, x := range want {
		if f := view.Field(i); f.Name != x.name || f.Type != x.kind {
			t.Errorf("field %d is %s, %v", i, f.Name, f.Type)
		}
	}
}

// P15.1: the chapter's example: 15 bytes of a head, and 4081 times 255.
func TestOpenOfTheExample(t *testing.T) {
	b := fresh(t, config(12, 1), 0).Open()
	if len(b) != 4096 || b[14] != 0 {
		t.Fatalf("Open without records is %s", begin(b))
	}
	if plain := []byte{1, 2, 12, 1}; !bytes.Equal(b[1:5], plain) || bytes.IndexByte(b[:14], 0) >= 0 { // of the body 1, 2, 12, 1, 0 the last byte is stuffed
		t.Errorf("the head is %v", b[:15])
	}
	expectBytes(t, "the head", b[:15], headOf(config(12, 1), 0))
	expectBytes(t, "behind the head", b[15:], bytes.Repeat([]byte{255}, 4081))
}

// P15.1: of each config and number that may be: a builder that has just the head.
func TestNew(t *testing.T) {
	for c, numbers := range right() {
		for _, number := range numbers {
			b := fresh(t, c, number)
			head := headOf(c, number)
			room, e := pack.Empty(c, number)
			if b.Room() != room || e != api.OK {
				t.Errorf("Room of %v, %d: %v; it ought to be %v", c, number, b.Room(), room)
			}
			expectBytes(t, "Frames without records", b.Frames(), head)
			if c.Exp < 15 || c.Segments == 2 { // few great ones are enough
				expectBytes(t, "Open without records", b.Open(), whole(c, head))
			}
			expectNotSealed(t, b)
		}
	}
}

// expectNotSealed holds Seal of a builder without records against ErrNone.
func expectNotSealed(t *testing.T, b *segment.Builder) {
	t.Helper()
	if got, e := b.Seal(); got != nil || e != api.ErrNone {
		t.Errorf("Seal without records: %s, %d", begin(got), e)
	}
}

// P15.1, R3: of each config and number that may not be: no builder.
func TestNewOfWrongHeads(t *testing.T) {
	for c, numbers := range wrong() {
		for _, number := range numbers {
			if b, e := segment.New(c, number); b != nil || e != api.ErrArg {
				t.Errorf("New of %v, %d: %v, %d", c, number, b, e)
			}
		}
	}
}

// P15.1: builders of one config and number know nothing of each other.
func TestBuildersAreOnTheirOwn(t *testing.T) {
	c := config(12, 2)
	a, b := fresh(t, c, 1), fresh(t, c, 1)
	for _, r := range many(20) {
		if _, e := a.Add(r); e != api.OK {
			t.Fatal(e)
		}
	}
	expectBuilt(t, b, c, 1, nil)
	expectBuilt(t, a, c, 1, many(20))
	expectBuilt(t, fresh(t, c, 1), c, 1, nil)
}
