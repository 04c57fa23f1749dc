// Package bits is layer 1: the bits of bytes, the lowest bit of each byte first.
package bits

import (
	"strings"

	"montage/api"
)

const (
	byteBits = 8
	maxBits  = 32 // of one number
)

// Reader goes over the bits of a text. Once it has failed it stands still.
type Reader struct {
	text   string
	at     int // in bits
	failed bool
}

// NewReader answers a reader at the first bit of s.
func NewReader(s string) *Reader {
	return &Reader{text: s}
}

// Bits answers the number in the next n bits, n from 0 up to 32, and goes behind them.
func (r *Reader) Bits(n int) uint32 {
	if r.stopped() {
		return 0
	}
	if n < 0 || n > maxBits || n > r.Left() {
		r.failed = true
		return 0
	}
	v := r.peek(n)
	r.at += n
	return v
}

// Align goes on to the next byte's first bit, if the reader is within a byte.
func (r *Reader) Align() {
	if r.stopped() {
		return
	}
	r.at = r.nextByte() * byteBits
}

// Bytes aligns, answers the next n bytes and goes behind them.
func (r *Reader) Bytes(n int) string {
	if r.stopped() {
		return ""
	}
	from := r.nextByte()
	// n is held against what is left, not added to from: the sum could wrap round.
	if n < 0 || n > len(r.text)-from {
		r.failed = true
		return ""
	}
	to := from + n
	r.at = to * byteBits
	// A copy, so that a short answer doesn't keep the whole text alive.
	return strings.Clone(r.text[from:to])
}

// At answers how many bits have been read or passed over.
func (r *Reader) At() int {
	if r == nil {
		return 0
	}
	return r.at
}

// Left answers how many bits are still to come.
func (r *Reader) Left() int {
	if r == nil {
		return 0
	}
	return len(r.text)*byteBits - r.at
}

// Err answers ErrEnd once the reader has failed, and of a nil reader.
func (r *Reader) Err() api.Errno {
	if r.stopped() {
		return api.ErrEnd
	}
	return api.OK
}

func (r *Reader) stopped() bool {
	return r == nil || r.failed
}

// nextByte is the place of the first byte of which nothing has been read.
func (r *Reader) nextByte() int {
	return (r.at + byteBits - 1) / byteBits
}

// peek asks for n bits that are there. With those ahead of them in the first byte
// they are at most 39, so that 64 bits hold them all.
func (r *Reader) peek(n int) uint32 {
	first, skip := r.at/byteBits, r.at%byteBits
	var v uint64
	for i := 0; i*byteBits < skip+n; i++ {
		v |= uint64(r.text[first+i]) << (i * byteBits)
	}
	return uint32(lowest(v>>skip, n))
}

// Writer gathers bits. The bits of its last byte that aren't put yet are 0.
type Writer struct {
	bytes []byte
	count int // in bits
}

// NewWriter answers a writer without bits.
func NewWriter() *Writer {
	return &Writer{}
}

// Put adds the lowest n bits of v, n brought to 0 up to 32.
func (w *Writer) Put(v uint32, n int) {
	if w == nil {
		return
	}
	n = min(max(n, 0), maxBits)
	used := w.count % byteBits
	// With those of a byte that has begun they are at most 39 bits.
	rest := lowest(uint64(v), n) << used
	if used > 0 {
		w.bytes[len(w.bytes)-1] |= byte(rest)
		rest >>= byteBits
	}
	w.count += n
	for len(w.bytes)*byteBits < w.count {
		w.bytes = append(w.bytes, byte(rest))
		rest >>= byteBits
	}
}

// Align fills up with bits 0 a byte that has begun.
func (w *Writer) Align() {
	if w == nil {
		return
	}
	w.count = len(w.bytes) * byteBits
}

// Write aligns and adds the bytes of s.
func (w *Writer) Write(s string) {
	if w == nil {
		return
	}
	w.bytes = append(w.bytes, s...)
	w.Align()
}

// Len answers how many bits there are.
func (w *Writer) Len() int {
	if w == nil {
		return 0
	}
	return w.count
}

// Text answers the bytes, the last one filled up with bits 0.
func (w *Writer) Text() string {
	if w == nil {
		return ""
	}
	return string(w.bytes)
}

func lowest(v uint64, n int) uint64 {
	return v & (1<<n - 1)
}
