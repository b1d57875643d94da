package elder_test

import (
	"bytes"
	"encoding/binary"
	"fmt"
	"slices"
	"strings"
	"testing"

	"fascicle/api"
	"fascicle/elder"
	"fascicle/thin"
)

// long gives a text of so many bytes.
func long(n int) string {
	return strings.Repeat("x", n)
}

// pair gives a pair.
func pair(key, value string) elder.Pair {
	return elder.Pair{Key: key, Value: value}
}

// join puts pieces one behind the other.
func join(pieces ...[]byte) []byte {
	return bytes.Join(pieces, nil)
}

// tell gives a pair as a short text.
func tell(p elder.Pair) string {
	return fmt.Sprintf("{Key %.9q (%d bytes), Value %.9q (%d bytes)}", p.Key, len(p.Key), p.Value, len(p.Value))
}

// begin gives the first ones of bytes, and how many there are, as a short text.
func begin(b []byte) string {
	return fmt.Sprintf("%v (%d bytes)", b[:min(30, len(b))], len(b))
}

// lengths gives both lengths, as they stand ahead of a pair.
func lengths(key, value uint32) []byte {
	return binary.LittleEndian.AppendUint32(binary.LittleEndian.AppendUint32(nil, key), value)
}

// sealed puts the right sum behind bytes, whatever they are.
func sealed(b []byte) []byte {
	return binary.LittleEndian.AppendUint32(bytes.Clone(b), thin.Sum(0, b))
}

// written works out a pair's bytes, whether or not it may be.
func written(p elder.Pair) []byte {
	return sealed(join(lengths(uint32(len(p.Key)), uint32(len(p.Value))), []byte(p.Key), []byte(p.Value)))
}

// row works out the bytes of pairs, one behind the other.
func row(l []elder.Pair) []byte {
	var b []byte
	for _, p := range l {
		b = append(b, written(p)...)
	}
	return b
}

// toldOf works out what Get ought to tell, fault by fault in the chapter's order.
func toldOf(b []byte) (elder.Pair, int, api.Errno) {
	if len(b) < 8 {
		return elder.Pair{}, 0, api.ErrShort
	}
	key, value := int64(binary.LittleEndian.Uint32(b)), int64(binary.LittleEndian.Uint32(b[4:]))
	if key == 0 {
		return elder.Pair{}, 0, api.ErrForm
	}
	if key > 4096 {
		return elder.Pair{}, 0, api.ErrLong
	}
	if value > 1<<20 {
		return elder.Pair{}, 0, api.ErrLong
	}
	end := 8 + key + value
	if int64(len(b)) < end+4 {
		return elder.Pair{}, 0, api.ErrShort
	}
	if binary.LittleEndian.Uint32(b[end:]) != thin.Sum(0, b[:end]) {
		return elder.Pair{}, 0, api.ErrSum
	}
	return pair(string(b[8:8+key]), string(b[8+key:end])), int(end + 4), api.OK
}

// allOf works out what GetAll ought to tell.
func allOf(b []byte) (l []elder.Pair, n int, e api.Errno) {
	for n < len(b) {
		p, size, e := toldOf(b[n:])
		if e != api.OK {
			return l, n, e
		}
		l, n = append(l, p), n+size
	}
	return l, n, api.OK
}

// expectGet holds Get of bytes against the model.
func expectGet(t *testing.T, b []byte) {
	t.Helper()
	want, size, wantE := toldOf(b)
	if p, n, e := elder.Get(b); p != want || n != size || e != wantE {
		t.Errorf("%s: %s, %d, %d; it ought to be %s, %d, %d", begin(b), tell(p), n, e, tell(want), size, wantE)
	}
}

// expectError holds Get of bytes against the error that it ought to tell; beside it there is no pair, and 0.
func expectError(t *testing.T, b []byte, want api.Errno) {
	t.Helper()
	if p, n, e := elder.Get(b); p != (elder.Pair{}) || n != 0 || e != want {
		t.Errorf("%s: %s, %d, %d; it ought to be %d", begin(b), tell(p), n, e, want)
	}
}

// expectAll holds GetAll of bytes against the pairs, how many bytes they have, and the error that it ought to tell.
func expectAll(t *testing.T, b []byte, want []elder.Pair, size int, wantE api.Errno) {
	t.Helper()
	if l, n, e := elder.GetAll(b); !slices.Equal(l, want) || n != size || e != wantE {
		t.Errorf("%s: %d pairs, %d, %d; it ought to be %d pairs, %d, %d", begin(b), len(l), n, e, len(want), size, wantE)
	}
}

// samples are pairs that may be.
func samples() []elder.Pair {
	l := []elder.Pair{
		pair("a", ""),
		pair("a", "b"),
		pair("bc", ""),
		pair("\x00", "\x00\x00"),
		pair("\xff\xfe\x80", "\xed\xa0\x80\x00"),
		pair("\u00e9\u4e16", "\U0001f600"),
		pair("\x01\x00\x00\x00", "\x00\x00\x00\x00a"),
	}
	for _, n := range []int{3, 4, 15, 16, 17, 255, 256, 257, 4095, 4096} {
		l = append(l, pair(long(n), ""), pair(long(n), "v"), pair("k", long(n)), pair(long(n), long(n)))
	}
	for _, n := range []int{65535, 65536, 66051, 1<<20 - 1, 1 << 20} {
		l = append(l, pair("k", long(n)), pair(long(4096), long(n)))
	}
	return l
}

// short are rows of pairs that have few bytes.
func short() [][]elder.Pair {
	return [][]elder.Pair{
		{},
		{pair("a", "")},
		{pair("a", "1"), pair("bc", ""), pair("a", "2")},
		{pair("a", "1"), pair("a", "1")},
		{pair("\x00", ""), pair("\x00\x00", "\x00\x00\x00"), pair("\xff", "\xff\xff"), pair("\x01\x00\x00\x00", "\x00\x00\x00\x00a")},
		{pair("k", long(40)), pair(long(40), ""), pair(long(20), long(20)), pair("k", ""), pair("l", long(3))},
	}
}
