package segment_test

import (
	"bytes"
	"fmt"
	"slices"
	"strings"
	"testing"
	"unsafe"

	"fascicle/api"
	"fascicle/segment"
)

// changeBytes makes each byte another one, those in the spare room, too.
func changeBytes(b []byte) {
	b = b[:cap(b)]
	for i := range b {
		b[i] ^= 85
	}
}

// changeView makes each thing of a view another one, those in the spare room, too.
func changeView(v segment.View) {
	records, at := v.Records[:cap(v.Records)], v.At[:cap(v.At)]
	for i := range records {
		records[i] = put(85, "changed", "changed")
	}
	for i := range at {
		at[i] ^= 85
	}
}

// lent gives records whose texts stand in bytes that can be changed, and what changes them.
func lent(l []api.Record) (records []api.Record, change func()) {
	var all [][]byte
	text := func(s string) string {
		if s == "" {
			return ""
		}
		b := []byte(s)
		all = append(all, b)
		return unsafe.String(&b[0], len(b))
	}
	for _, r := range l {
		r.Key, r.Value = text(r.Key), text(r.Value)
		records = append(records, r)
	}
	return records, func() {
		for _, b := range all {
			changeBytes(b)
		}
	}
}

// P15.3, R4: records aren't kept: what becomes of their bytes behind Add changes nothing.
func TestRecordsAreNotKept(t *testing.T) {
	c := config(12, 2)
	for _, l := range rows() {
		b := fresh(t, c, 1)
		for _, r := range l {
			records, change := lent([]api.Record{r})
			expectAdded(t, b, records[0])
			change()
		}
		expectBuilt(t, b, c, 1, l)
	}
}

// P15.3, R4: records aren't changed.
func TestRecordsAreNotChanged(t *testing.T) {
	c := config(12, 2)
	for _, l := range rows() {
		records, _ := lent(l)
		stateOf(build(t, c, 1, records))
		if !slices.Equal(records, l) {
			t.Errorf("%s were changed", tell(l))
		}
	}
}

// some are segments, sealed and not, and bytes that are none.
func some() [][]byte {
	c := config(12, 2)
	l := [][]byte{nil, {}, {0}, bytes.Repeat([]byte{255}, 4096), make([]byte, 4096), openOf(c, 1, nil)}
	for _, row := range rows() {
		open, sealed := openOf(c, 1, row), sealedOf(c, 1, row)
		other := bytes.Clone(sealed)
		other[4095] = 0
		l = append(l, open, sealed, other, sealed[:4095])
	}
	return l
}

// told is what Parse tells of bytes, as a text.
func told(b []byte) string {
	v, e := segment.Parse(config(12, 2), 1, b)
	return fmt.Sprint(v, e)
}

// P15.3, R4: bytes that are handed in aren't changed, their spare room neither, and the spare room doesn't count.
func TestBytesAreNotChanged(t *testing.T) {
	for _, b := range some() {
		want := told(slices.Clip(bytes.Clone(b)))
		for _, behind := range [][]byte{{0}, {255}, bytes.Repeat([]byte{255}, 300), bytes.Repeat([]byte{1, 0}, 300)} {
			room := join(b, behind)
			was := bytes.Clone(room)
			if told(room[:len(b)]) != want {
				t.Errorf("with others behind it something else is told of %s", begin(b))
			}
			expectBytes(t, "what was handed in", room, was)
		}
	}
}

// P15.3, R4: bytes aren't kept: what was told doesn't change when they do.
func TestBytesAreNotKept(t *testing.T) {
	c := config(12, 2)
	for _, l := range rows() {
		for _, sealed := range []bool{false, true} {
			b := openOf(c, 1, l)
			if sealed {
				b = sealedOf(c, 1, l)
			}
			v, e := segment.Parse(c, 1, b)
			changeBytes(b)
			if e != api.OK || !same(v, viewOf(c, 1, l, sealed)) {
				t.Errorf("behind a change of its bytes %s is %s, %d", tell(l), show(v), e)
			}
			expectNoView(t, "changed bytes", c, 1, b, api.ErrForm)
		}
	}
}

// P15.3, R4: a view that is changed, or to whose lists something is appended, changes neither the bytes nor another view, nor its own other list.
func TestViewsAreNewMemory(t *testing.T) {
	c := config(12, 2)
	for _, l := range rows() {
		b := sealedOf(c, 1, l)
		want := viewOf(c, 1, l, true)
		first, _ := segment.Parse(c, 1, b)
		second, _ := segment.Parse(c, 1, b)
		_ = append(first.At, 7, 8, 9)
		_ = append(first.Records, put(7, "more", ""))
		if !same(first, want) {
			t.Errorf("what was appended changed the view of %s", tell(l))
		}
		changeView(first)
		if !same(second, want) {
			t.Errorf("a change of one view of %s changed another one", tell(l))
		}
		expectBytes(t, "behind a change of its view", b, sealedOf(c, 1, l))
		expectView(t, c, 1, b, want)
	}
}

// P15.3, R4: what a builder told doesn't change when it goes on.
func TestAnswersStayWhenTheBuilderGoesOn(t *testing.T) {
	c := config(12, 2)
	for _, l := range rows() {
		b := fresh(t, c, 1)
		var was []state
		for _, r := range l {
			was = append(was, stateOf(b))
			expectAdded(t, b, r)
		}
		for i, x := range was {
			expectState(t, "what was told on the way", build(t, c, 1, l[:i]), x)
		}
	}
}

// P15.3, R4: answers that are changed, or to which something is appended, change neither the builder nor each other.
func TestAnswersAreNewMemory(t *testing.T) {
	c := config(12, 2)
	for _, l := range rows() {
		b := fresh(t, c, 1)
		for i, r := range l {
			first, second := stateOf(b), stateOf(b)
			want := stateOf(build(t, c, 1, l[:i]))
			for _, answer := range [][]byte{first.frames, first.open, first.sealed} {
				_ = append(answer, "more"...)
				changeBytes(answer)
			}
			expectState(t, "behind a change of answers", b, want)
			expectState(t, "behind a change of answers", build(t, c, 1, l[:i]), second)
			expectAdded(t, b, r)
		}
		expectBuilt(t, b, c, 1, l)
	}
}

// P15.3, R4: what is appended to Frames doesn't go into the builder, and what the builder goes on with doesn't go into it.
func TestFramesHaveNoRoomOfTheBuilder(t *testing.T) {
	c := config(12, 2)
	b := fresh(t, c, 1)
	for i, r := range many(20) {
		mine := append(b.Frames(), strings.Repeat("mine", 10)...)
		was := bytes.Clone(mine)
		expectAdded(t, b, r)
		expectBytes(t, "what was appended", mine, was)
		expectBytes(t, "Frames", b.Frames(), lay(c, 1, many(i+1)).frames)
	}
}

// R3, R4: of no records there is no list with something in it.
func TestViewsWithoutRecords(t *testing.T) {
	v, e := segment.Parse(config(12, 2), 1, openOf(config(12, 2), 1, nil))
	if e != api.OK || len(v.Records) != 0 || len(v.At) != 0 || v.Used != 15 || v.Sealed {
		t.Errorf("%s, %d", show(v), e)
	}
}

// R5: what is told hangs on the arguments alone: between other calls it is the same.
func TestCallsTellTheSameAgain(t *testing.T) {
	l := some()
	var first []string
	for _, b := range l {
		first = append(first, told(b))
	}
	for i := len(l) - 1; i >= 0; i-- {
		if told(l[i]) != first[i] {
			t.Errorf("of %s something else is told the second time", begin(l[i]))
		}
	}
}
