// Package code is layer 1: numbers and texts as bytes. See shared/doc/01-code.md.
package code

import (
	"bytes"

	"coffret/api"
)

const (
	numBytes    = 8                      // bytes of a number
	lengthBytes = 3                      // bytes of a text's length
	tooLong     = 1 << (8 * lengthBytes) // the least length that these can't hold
)

// Writer has what was written.
type Writer struct {
	written []byte
}

// Bytes: all that was written.
func (w *Writer) Bytes() []byte {
	if w == nil {
		return nil
	}
	return bytes.Clone(w.written)
}

// Byte writes bytes, as they are.
func (w *Writer) Byte(list ...byte) {
	if w == nil {
		return
	}
	w.written = append(w.written, list...)
}

// Num writes numbers, eight bytes each, the lowest first.
func (w *Writer) Num(list ...int) {
	if w == nil {
		return
	}
	for _, n := range list {
		w.written = appendLow(w.written, uint64(n), numBytes)
	}
}

// Text writes texts: how many bytes each has, in three, the lowest first, and these; of one of 2^24 or more nothing.
func (w *Writer) Text(list ...string) {
	if w == nil {
		return
	}
	for _, s := range list {
		if len(s) >= tooLong {
			continue
		}
		w.written = appendLow(w.written, uint64(len(s)), lengthBytes)
		w.written = append(w.written, s...)
	}
}

// appendLow puts the lowest size bytes of n behind b, the lowest first.
func appendLow(b []byte, n uint64, size int) []byte {
	for range size {
		b = append(b, byte(n))
		n >>= 8
	}
	return b
}

// Reader goes over bytes; behind the first fault it has nothing more.
type Reader struct {
	left  []byte
	fault bool
}

// Read: a reader of bytes; they are copied.
func Read(b []byte) *Reader {
	return &Reader{left: bytes.Clone(b)}
}

// Take: so many bytes; false, and a fault: there are fewer, or so many can't be.
func (r *Reader) Take(n int) ([]byte, bool) {
	b, ok := r.next(n)
	return bytes.Clone(b), ok
}

// Num: a number.
func (r *Reader) Num() int {
	b, _ := r.next(numBytes)
	return int(low(b))
}

// In: a number that must be from one to another; else 0, and a fault.
func (r *Reader) In(lo, hi int) int {
	n := r.Num()
	if n < lo || n > hi {
		r.fail()
		return 0
	}
	return n
}

// Text: a text of so many bytes at most, and of MaxText at most.
func (r *Reader) Text(most int) string {
	b, _ := r.next(lengthBytes)
	n := int(low(b))
	if n > min(most, api.MaxText) {
		r.fail()
	}
	b, _ = r.next(n)
	return string(b)
}

// Left: how many bytes are left.
func (r *Reader) Left() int {
	if r == nil {
		return 0
	}
	return len(r.left)
}

// Good: whether nothing was wrong so far.
func (r *Reader) Good() bool {
	return r != nil && !r.fault
}

// End: whether nothing was wrong, and nothing is left.
func (r *Reader) End() bool {
	return r.Good() && r.Left() == 0
}

// next takes so many bytes as Take does, but these are the reader's own: they don't leave the package uncopied.
func (r *Reader) next(n int) ([]byte, bool) {
	if !r.Good() || n < 0 || n > r.Left() {
		r.fail()
		return nil, false
	}
	b := r.left[:n]
	r.left = r.left[n:]
	return b, true
}

// fail is a fault: nothing is left from then on.
func (r *Reader) fail() {
	if r == nil {
		return
	}
	r.left, r.fault = nil, true
}

// low: the number of which b has the lowest bytes, the lowest first; 0 of none.
func low(b []byte) uint64 {
	var n uint64
	for i, x := range b {
		n |= uint64(x) << (8 * i)
	}
	return n
}
