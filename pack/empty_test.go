package pack_test

import (
	"math"
	"reflect"
	"testing"

	"fascicle/api"
	"fascicle/frame"
	"fascicle/pack"
)

// expectEmpty holds Empty against the model, and against the head's frame.
func expectEmpty(t *testing.T, c api.Config, number uint32) {
	t.Helper()
	want := emptyOf(c, number)
	if r, e := pack.Empty(c, number); r != want || e != api.OK {
		t.Errorf("Empty of %v, %d: %v, %d; it ought to be %v", c, number, r, e, want)
	}
	head, e := frame.PutHead(c, number)
	if e != api.OK || len(head) != want.Used {
		t.Errorf("the head of %v, %d has %d bytes, %d; the model says %d", c, number, len(head), e, want.Used)
	}
}

// expectNoRoom holds Empty against ErrArg.
func expectNoRoom(t *testing.T, c api.Config, number uint32) {
	t.Helper()
	if r, e := pack.Empty(c, number); r != (pack.Room{}) || e != api.ErrArg {
		t.Errorf("Empty of %v, %d: %v, %d; there is no such room", c, number, r, e)
	}
}

// R5: a room has just the fields that the chapter gives, in this order.
func TestRoomHasItsFields(t *testing.T) {
	room := reflect.TypeFor[pack.Room]()
	want := []struct {
		name string
		kind reflect.Type
	}{
		{"Config", reflect.TypeFor[api.Config]()},
		{"Number", reflect.TypeFor[uint32]()},
		{"Used", reflect.TypeFor[int]()},
		{"Count", reflect.TypeFor[int]()},
	}
	if room.NumField() != len(want) {
		t.Fatalf("a room has %d fields", room.NumField())
	}
	for i, x := range want {
		if f := room.Field(i); f.Name != x.name || f.Type != x.kind {
			t.Errorf("field %d is %s, %v", i, f.Name, f.Type)
		}
	}
}

// P14.1: Used is as many bytes as the head's frame has, worked out by hand: each byte more of a number is one more.
func TestEmptyOfKnownHeads(t *testing.T) {
	for _, x := range []struct {
		c      api.Config
		number uint32
		used   int
	}{
		{config(12, 1), 0, 15},
		{config(12, 127), 126, 15},
		{config(12, 128), 0, 16},
		{config(12, 128), 127, 16},
		{config(12, 129), 127, 16},
		{config(12, 129), 128, 17},
		{config(12, 16384), 0, 17},
		{config(12, 16384), 127, 17},
		{config(12, 16384), 128, 18},
		{config(12, 16384), 16383, 18},
		{config(12, 16385), 16383, 18},
		{config(12, 16385), 16384, 19},
		{config(24, 65536), 0, 17},
		{config(24, 65536), 65535, 19},
	} {
		want := pack.Room{Config: x.c, Number: x.number, Used: x.used}
		if r, e := pack.Empty(x.c, x.number); r != want || e != api.OK {
			t.Errorf("Empty of %v, %d: %v, %d; it ought to be %v", x.c, x.number, r, e, want)
		}
	}
}

// P14.1: each number from 0 to Segments less 1.
func TestEmptyOfEachNumber(t *testing.T) {
	for _, c := range []api.Config{config(12, 1), config(12, 2), config(13, 127), config(16, 128), config(20, 129), config(24, 300), config(12, 16400), config(24, 65536)} {
		for number := range c.Segments {
			expectEmpty(t, c, number)
		}
	}
	for exp := uint8(12); exp <= 24; exp++ {
		for _, segments := range []uint32{1, 2, 127, 128, 16383, 16384, 65535, 65536} {
			for _, number := range numbersOf(config(exp, segments)) {
				expectEmpty(t, config(exp, segments), number)
			}
		}
	}
}

// P14.1, R3: of a number that may not be there is no room: Segments, and more, also such as cut to fewer bits may be.
func TestEmptyOfWrongNumbers(t *testing.T) {
	for _, c := range right() {
		for _, number := range []uint32{c.Segments, c.Segments + 1, 2 * c.Segments, c.Segments + 256, c.Segments + 65536, 65536, 65537, 1 << 31, 1<<31 + 1, math.MaxUint32 - 1, math.MaxUint32} {
			expectNoRoom(t, c, number)
		}
	}
}

// P14.1, R3: of a config that may not be there is no room, whatever the number is.
func TestEmptyOfWrongConfigs(t *testing.T) {
	for _, c := range wrong() {
		for _, number := range []uint32{0, 1, 2, c.Segments - 1, c.Segments, c.Segments + 1, 65535, 65536, math.MaxUint32} {
			expectNoRoom(t, c, number)
		}
	}
}
