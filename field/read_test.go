package field_test

import (
	"math"
	"testing"

	"montage/api"
	"montage/field"
)

// The widths of the numbers, in bytes, each with its call, so that all can be held to the same.
type reader struct {
	name  string
	width int
	read  func(s string, at int) (uint64, api.Errno)
}

func readers() []reader {
	return []reader{
		{"U16", 2, func(s string, at int) (uint64, api.Errno) {
			n, err := field.U16(s, at)
			return uint64(n), err
		}},
		{"U32", 4, func(s string, at int) (uint64, api.Errno) {
			n, err := field.U32(s, at)
			return uint64(n), err
		}},
		{"U64", 8, field.U64},
	}
}

// A text in which every byte is another one, and the last ones have their highest bit.
func distinct(n int) string {
	b := make([]byte, n)
	for i := range b {
		b[i] = byte(0xff - 7*(n-1-i))
	}
	return string(b)
}

// The number by its definition: each byte counts 256 times as much as the one ahead of it.
func byDefinition(s string, at, width int) uint64 {
	var n, worth uint64 = 0, 1
	for _, b := range []byte(s)[at : at+width] {
		n += uint64(b) * worth
		worth *= 256
	}
	return n
}

func TestNumbers(t *testing.T) {
	const s = "\x01\x02\x03\x04\x05\x06\x07\x88\xff"
	if n, err := field.U16("\x01\x02", 0); n != 513 || err != api.OK {
		t.Error(n, err)
	}
	if n, err := field.U16(s, 1); n != 0x0302 || err != api.OK {
		t.Error(n, err)
	}
	if n, err := field.U32(s, 0); n != 0x04030201 || err != api.OK {
		t.Error(n, err)
	}
	if n, err := field.U32(s, 4); n != 0x88070605 || err != api.OK {
		t.Error(n, err)
	}
	if n, err := field.U64(s, 0); n != 0x8807060504030201 || err != api.OK {
		t.Error(n, err)
	}
	if n, err := field.U64(s, 1); n != 0xff88070605040302 || err != api.OK {
		t.Error(n, err)
	}
}

func TestNumbersAtEveryPlace(t *testing.T) {
	for size := range 24 {
		s := distinct(size)
		for _, r := range readers() {
			for at := -3; at <= size+3; at++ {
				var want uint64
				wantErr := api.ErrEnd
				if at >= 0 && at+r.width <= size {
					want, wantErr = byDefinition(s, at, r.width), api.OK
				}
				if n, err := r.read(s, at); n != want || err != wantErr {
					t.Errorf("%s(%q, %d): %d, %d; want %d, %d", r.name, s, at, n, err, want, wantErr)
				}
			}
		}
	}
}

func TestGreatestAndLeastNumbers(t *testing.T) {
	const ones = "\xff\xff\xff\xff\xff\xff\xff\xff"
	if n, err := field.U16(ones[:2], 0); n != math.MaxUint16 || err != api.OK {
		t.Error(n, err)
	}
	if n, err := field.U32(ones[:4], 0); n != math.MaxUint32 || err != api.OK {
		t.Error(n, err)
	}
	if n, err := field.U64(ones, 0); n != math.MaxUint64 || err != api.OK {
		t.Error(n, err)
	}
	for _, r := range readers() {
		if n, err := r.read(string(make([]byte, r.width)), 0); n != 0 || err != api.OK {
			t.Error(r.name, n, err)
		}
	}
}

func TestNumbersHaveNoSign(t *testing.T) {
	if n, err := field.U16("\x00\x80", 0); n != 1<<15 || err != api.OK {
		t.Error(n, err)
	}
	if n, err := field.U32("\x00\x00\x00\x80", 0); n != 1<<31 || err != api.OK {
		t.Error(n, err)
	}
	if n, err := field.U64("\x00\x00\x00\x00\x00\x00\x00\x80", 0); n != 1<<63 || err != api.OK {
		t.Error(n, err)
	}
}

// Places so great, or so far below 0, that a sum with a width wraps round.
func farPlaces() []int {
	return []int{
		math.MinInt, math.MinInt + 1, math.MinInt + 8, -1 << 62, -1 << 32, -1 << 31, -9, -8, -2, -1,
		1 << 31, 1 << 32, 1 << 62, math.MaxInt - 8, math.MaxInt - 7, math.MaxInt - 1, math.MaxInt,
	}
}

func TestNumbersAtFarPlaces(t *testing.T) {
	for _, s := range []string{"", "\x01", distinct(40)} {
		for _, r := range readers() {
			for _, at := range farPlaces() {
				if n, err := r.read(s, at); n != 0 || err != api.ErrEnd {
					t.Errorf("%s(%q, %d): %d, %d", r.name, s, at, n, err)
				}
			}
		}
	}
}

func TestNumbersOfNothing(t *testing.T) {
	for _, r := range readers() {
		if n, err := r.read("", 0); n != 0 || err != api.ErrEnd {
			t.Error(r.name, n, err)
		}
	}
}
