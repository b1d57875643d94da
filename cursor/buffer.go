package cursor

import "bytes"

// Buffer is bytes that grow.
type Buffer struct {
	bytes []byte
}

// Byte: one.
func (w *Buffer) Byte(x byte) *Buffer {
	w.bytes = append(w.bytes, x)
	return w
}

// Four: of 4 bytes.
func (w *Buffer) Four(x uint32) *Buffer {
	return w.number(uint64(x), 4)
}

// Eight: of 8.
func (w *Buffer) Eight(x uint64) *Buffer {
	return w.number(x, 8)
}

// Raw: bytes.
func (w *Buffer) Raw(b []byte) *Buffer {
	w.bytes = append(w.bytes, b...)
	return w
}

// Len: how many.
func (w *Buffer) Len() int {
	return len(w.bytes)
}

// Bytes: all.
func (w *Buffer) Bytes() []byte {
	return bytes.Clone(w.bytes)
}

// number is written in size bytes, the lowest one first.
func (w *Buffer) number(x uint64, size int) *Buffer {
	for i := range size {
		w.Byte(byte(x >> (8 * i)))
	}
	return w
}
