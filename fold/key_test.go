package fold_test

import (
	"strings"
	"testing"

	"fascicle/api"
	"fascicle/fold"
)

// P18.1: the kinds are numbered as the chapter lists them, so that the zero value is Absent.
func TestKinds(t *testing.T) {
	var zero fold.Kind
	if fold.Absent != zero || fold.Deleted != 1 || fold.Value != 2 {
		t.Error(fold.Absent, fold.Deleted, fold.Value)
	}
}

// P18.1: the chapter's example.
func TestExample(t *testing.T) {
	l := example()
	expectAt(t, l, "a", fold.Deleted, "")
	expectAt(t, l, "b", fold.Value, "y")
	expectAt(t, l, "c", fold.Absent, "")
}

// P18.1: of no records each key is Absent, and there is nothing to list.
func TestNoRecords(t *testing.T) {
	for _, l := range [][]api.Record{nil, {}, example()[:0], example()[3:]} {
		for _, key := range wellKnown() {
			expectAt(t, l, key, fold.Absent, "")
			if r, has := fold.Last(l, key); has || r != (api.Record{}) {
				t.Error(r, has)
			}
		}
		if n := len(fold.Keys(l)) + len(fold.Live(l)) + len(fold.Compact(l)) + len(fold.Sorted(l)); n != 0 {
			t.Error(n)
		}
	}
}

// P18.1: of one record its key alone is told, whatever it is.
func TestOneRecord(t *testing.T) {
	for _, key := range wellKnown() {
		for _, other := range wellKnown() {
			kind, value := fold.Value, "v"
			if other != key {
				kind, value = fold.Absent, ""
			}
			expectAt(t, []api.Record{put(7, key, "v")}, other, kind, value)
		}
		expectAt(t, []api.Record{gone(7, key)}, key, fold.Deleted, "")
	}
}

// P18.1: what the last one in the row says counts, whatever the Seqs are.
func TestLastInTheRowCounts(t *testing.T) {
	for _, seqs := range [][3]uint64{{1, 2, 3}, {3, 2, 1}, {2, 3, 1}, {3, 1, 2}, {5, 5, 5}, {0, 1<<64 - 1, 0}} {
		l := []api.Record{put(seqs[0], "a", "1"), put(seqs[1], "b", "2"), put(seqs[2], "a", "3")}
		expectAt(t, l, "a", fold.Value, "3")
		expectAt(t, l, "b", fold.Value, "2")
		expectAt(t, l[:2], "a", fold.Value, "1")
		l[2].Delete, l[2].Value = true, ""
		expectAt(t, l, "a", fold.Deleted, "")
		l[0].Delete, l[2].Delete, l[2].Value = true, false, "4"
		expectAt(t, l, "a", fold.Value, "4")
	}
}

// P18.1: an empty value is a Value, neither Absent nor Deleted.
func TestEmptyValue(t *testing.T) {
	expectAt(t, []api.Record{put(1, "a", "")}, "a", fold.Value, "")
	expectAt(t, []api.Record{put(1, "a", "x"), put(2, "a", "")}, "a", fold.Value, "")
	expectAt(t, []api.Record{gone(1, "a"), put(2, "a", "")}, "a", fold.Value, "")
	expectAt(t, []api.Record{put(1, "", "")}, "", fold.Value, "")
	expectAt(t, []api.Record{put(1, "a", ""), gone(2, "a")}, "a", fold.Deleted, "")
}

// P18.1: what is deleted has no value, whatever text its record has; Last tells the record as it is.
func TestDeletedHasNoValue(t *testing.T) {
	l := []api.Record{put(1, "a", "x"), odd(2, "a", "text"), put(3, "b", "y")}
	expectAt(t, l, "a", fold.Deleted, "")
	if r, has := fold.Last(l, "a"); r != l[1] || !has {
		t.Error(r, has)
	}
}

// P18.1: a key that is another one's beginning, or empty, is a key of its own.
func TestBeginnings(t *testing.T) {
	l := []api.Record{put(1, "ab", "1"), put(2, "a", "2"), put(3, "abc", "3"), put(4, "", "4"), gone(5, "ab")}
	expectAt(t, l, "", fold.Value, "4")
	expectAt(t, l, "a", fold.Value, "2")
	expectAt(t, l, "ab", fold.Deleted, "")
	expectAt(t, l, "abc", fold.Value, "3")
	expectAt(t, l, "abcd", fold.Absent, "")
	expectAt(t, l, "b", fold.Absent, "")
	expectAt(t, l[:3], "", fold.Absent, "")
	expectAt(t, l[2:3], "ab", fold.Absent, "")
}

// P18.1: Last tells the whole last record of the row that has the key, also one that deletes; zero and false, if none has it.
func TestLast(t *testing.T) {
	l := []api.Record{put(9, "a", "1"), gone(2, "b"), put(5, "a", "2"), put(7, "b", ""), gone(1, "a")}
	for n, want := range []int{-1, 0, 0, 2, 2, 4} {
		r, has := fold.Last(l[:n], "a")
		if want < 0 && (has || r != (api.Record{})) || want >= 0 && (!has || r != l[want]) {
			t.Errorf("of %d: %v, %v", n, r, has)
		}
	}
	if r, has := fold.Last(l, "c"); has || r != (api.Record{}) {
		t.Error(r, has)
	}
	if r, has := fold.Last([]api.Record{{}}, ""); !has || r != (api.Record{}) {
		t.Error("a zero record is one", r, has)
	}
}

// P18.1: keys and values that are longer than a record's may be, and any bytes, are told like others.
func TestGreatTexts(t *testing.T) {
	key, value := strings.Repeat("k", api.MaxKey+1), strings.Repeat("\xff\x00", api.MaxValue)
	l := []api.Record{put(1, key, value), put(2, key[1:], "short"), put(3, key[:api.MaxKey-1]+"l", "other")}
	expectAt(t, l, key, fold.Value, value)
	expectAt(t, l, key[1:], fold.Value, "short")
	expectAt(t, l, key+"k", fold.Absent, "")
}

// P18.1, P18.2: each row is told as the model tells it, and so is each key that it has or hasn't.
func TestRows(t *testing.T) {
	for _, l := range rows() {
		keys := append(wellKnown(), modelKeys(l)...)
		expectAnswers(t, tell(l), ask(l, keys), modelOf(l, keys))
	}
}

// P18.1, P18.2: all short rows of a few records are told as the model tells them.
func TestShortRows(t *testing.T) {
	keys := []string{"", "a", "ab", "b"}
	eachShort(t, few(), 4, func(l []api.Record) {
		expectAnswers(t, tell(l), ask(l, keys), modelOf(l, keys))
	})
}

// P18.1, P18.2: rows thrown by dice are told as the model tells them.
func TestDicedRows(t *testing.T) {
	for seed := range uint64(300) {
		l := dice(seed, int(seed))
		expectAnswers(t, tell(l), ask(l, wellKnown()), modelOf(l, wellKnown()))
	}
}
