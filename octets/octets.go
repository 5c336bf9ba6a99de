// Package octets writes numbers and strings as bytes, the lowest byte first, and reads them back. Layers whose states, frames or images are bytes share it.
package octets

import "slices"

// Writer collects bytes.
type Writer struct{ bytes []byte }

// Bytes returns a copy of what was written.
func (w *Writer) Bytes() []byte { return slices.Clone(w.bytes) }

// Len returns how many bytes were written.
func (w *Writer) Len() int { return len(w.bytes) }

// Number writes the lowest bytes of a number.
func (w *Writer) Number(v uint64, width int) {
	for i := range width {
		w.bytes = append(w.bytes, byte(v>>(8*i)))
	}
}

// Byte writes a byte.
func (w *Writer) Byte(v byte) { w.bytes = append(w.bytes, v) }

// Bool writes a byte 0 or 1.
func (w *Writer) Bool(v bool) {
	if v {
		w.Byte(1)
	} else {
		w.Byte(0)
	}
}

// Int writes eight bytes, a negative number in two's complement.
func (w *Writer) Int(v int64) { w.Number(uint64(v), 8) }

// Raw writes bytes as they are.
func (w *Writer) Raw(p []byte) { w.bytes = append(w.bytes, p...) }

// Text writes a string behind its length, which has so many bytes.
func (w *Writer) Text(s string, width int) {
	w.Number(uint64(len(s)), width)
	w.bytes = append(w.bytes, s...)
}

// Reader takes bytes from the front. Once something is missing or wrong it has failed, and everything that it takes is zero.
type Reader struct {
	rest   []byte
	failed bool
}

// NewReader returns a reader of bytes, which must not change while it reads.
func NewReader(p []byte) *Reader { return &Reader{rest: p} }

// Fail makes the reader fail.
func (r *Reader) Fail() { r.rest, r.failed = nil, true }

// Failed reports whether something was missing or wrong.
func (r *Reader) Failed() bool { return r.failed }

// Left returns how many bytes are left.
func (r *Reader) Left() int { return len(r.rest) }

// Done reports whether everything was taken, and nothing was wrong.
func (r *Reader) Done() bool { return !r.failed && len(r.rest) == 0 }

// Raw takes n bytes as they are.
func (r *Reader) Raw(n int) []byte {
	if n < 0 || n > len(r.rest) {
		r.Fail()
		return nil
	}
	p := slices.Clone(r.rest[:n])
	r.rest = r.rest[n:]
	return p
}

// Number takes a number of so many bytes.
func (r *Reader) Number(width int) uint64 {
	var v uint64
	for i, b := range r.Raw(width) {
		v |= uint64(b) << (8 * i)
	}
	return v
}

// Byte takes a byte.
func (r *Reader) Byte() byte { return byte(r.Number(1)) }

// Bool takes a byte 0 or 1.
func (r *Reader) Bool() bool {
	b := r.Byte()
	if b > 1 {
		r.Fail()
	}
	return b == 1
}

// Int takes eight bytes.
func (r *Reader) Int() int64 { return int64(r.Number(8)) }

// Text takes a string behind its length, which has so many bytes.
func (r *Reader) Text(width int) string {
	n := r.Number(width)
	if n > uint64(len(r.rest)) {
		r.Fail()
		return ""
	}
	return string(r.Raw(int(n)))
}
