package bits_test

import (
	"math"
	"strings"
	"testing"

	"montage/api"
	"montage/bits"
)

// stands holds a reader's place, what is left and its error against those that are asked for.
func stands(t *testing.T, r *bits.Reader, at, left int, err api.Errno) {
	t.Helper()
	if r.At() != at || r.Left() != left || r.Err() != err {
		t.Errorf("At %d, Left %d, Err %d; want %d, %d, %d", r.At(), r.Left(), r.Err(), at, left, err)
	}
}

func wantBits(t *testing.T, r *bits.Reader, n int, want uint32) {
	t.Helper()
	if got := r.Bits(n); got != want {
		t.Errorf("Bits(%d) = %#x, want %#x", n, got, want)
	}
}

func wantBytes(t *testing.T, r *bits.Reader, n int, want string) {
	t.Helper()
	if got := r.Bytes(n); got != want {
		t.Errorf("Bytes(%d) = %q, want %q", n, got, want)
	}
}

func TestNewReaderStandsAtTheFirstBit(t *testing.T) {
	stands(t, bits.NewReader(""), 0, 0, api.OK)
	stands(t, bits.NewReader("abc"), 0, 24, api.OK)
}

func TestBitsLowestFirst(t *testing.T) {
	// 13 is 1, 0, 1, 1 and four bits 0.
	r := bits.NewReader("\x0d")
	for _, want := range []uint32{1, 0, 1, 1, 0, 0, 0, 0} {
		wantBits(t, r, 1, want)
	}
	stands(t, r, 8, 0, api.OK)

	r = bits.NewReader("\x0d")
	wantBits(t, r, 3, 5)
	stands(t, r, 3, 5, api.OK)
	wantBits(t, r, 1, 1)
	stands(t, r, 4, 4, api.OK)
}

func TestBitsOfNone(t *testing.T) {
	r := bits.NewReader("")
	wantBits(t, r, 0, 0)
	stands(t, r, 0, 0, api.OK)

	r = bits.NewReader("\xff")
	wantBits(t, r, 0, 0)
	stands(t, r, 0, 8, api.OK)
	wantBits(t, r, 3, 7)
	wantBits(t, r, 0, 0)
	stands(t, r, 3, 5, api.OK)
	wantBits(t, r, 5, 31)
	wantBits(t, r, 0, 0)
	stands(t, r, 8, 0, api.OK)
}

func TestBitsOfThirtyTwo(t *testing.T) {
	r := bits.NewReader("\x01\x02\x03\x84")
	wantBits(t, r, 32, 0x84030201)
	stands(t, r, 32, 0, api.OK)

	wantBits(t, bits.NewReader("\xff\xff\xff\xff"), 32, 0xffffffff)
}

func TestBitsCrossBytes(t *testing.T) {
	// 0xdeadbeef9a, its lowest byte first, from each of a byte's bits on.
	const text, all = "\x9a\xef\xbe\xad\xde", uint64(0xdeadbeef9a)
	for skip := range 8 {
		r := bits.NewReader(text)
		wantBits(t, r, skip, uint32(all&(1<<skip-1)))
		wantBits(t, r, 32, uint32(all>>skip))
		stands(t, r, skip+32, 8-skip, api.OK)
	}
	r := bits.NewReader("\x80\x01")
	wantBits(t, r, 7, 0)
	wantBits(t, r, 2, 3)
	stands(t, r, 9, 7, api.OK)
}

func TestBitsReachTheEndExactly(t *testing.T) {
	r := bits.NewReader("\xff\x7f")
	wantBits(t, r, 16, 0x7fff)
	stands(t, r, 16, 0, api.OK)
	wantBits(t, r, 1, 0)
	stands(t, r, 16, 0, api.ErrEnd)
}

func TestAlignOfReader(t *testing.T) {
	r := bits.NewReader("\xff\x01\xff")
	r.Align()
	stands(t, r, 0, 24, api.OK)
	for n := 1; n < 8; n++ {
		r = bits.NewReader("\xff\x01\xff")
		r.Bits(n)
		r.Align()
		stands(t, r, 8, 16, api.OK)
		wantBits(t, r, 8, 1)
		r.Align()
		stands(t, r, 16, 8, api.OK)
	}
	r.Bits(1)
	r.Align()
	stands(t, r, 24, 0, api.OK)
	r.Align()
	stands(t, r, 24, 0, api.OK)

	r = bits.NewReader("")
	r.Align()
	stands(t, r, 0, 0, api.OK)
}

func TestBytes(t *testing.T) {
	r := bits.NewReader("abcde")
	wantBytes(t, r, 2, "ab")
	stands(t, r, 16, 24, api.OK)
	wantBytes(t, r, 0, "")
	stands(t, r, 16, 24, api.OK)
	wantBytes(t, r, 3, "cde")
	stands(t, r, 40, 0, api.OK)
	wantBytes(t, r, 0, "")
	stands(t, r, 40, 0, api.OK)
	wantBytes(t, r, 1, "")
	stands(t, r, 40, 0, api.ErrEnd)
}

func TestBytesWithinAByte(t *testing.T) {
	for n := 1; n < 8; n++ {
		r := bits.NewReader("a\x00\xffd")
		r.Bits(n)
		wantBytes(t, r, 2, "\x00\xff")
		stands(t, r, 24, 8, api.OK)

		r = bits.NewReader("abc")
		r.Bits(n)
		wantBytes(t, r, 0, "")
		stands(t, r, 8, 16, api.OK)

		r = bits.NewReader("abc")
		r.Bits(n)
		wantBytes(t, r, 2, "bc")
		stands(t, r, 24, 0, api.OK)

		r = bits.NewReader("a")
		r.Bits(n)
		wantBytes(t, r, 0, "")
		stands(t, r, 8, 0, api.OK)
	}
}

// TestReaderFails holds for each call that fails that it answers nothing, that the reader stays, and that it stays failed.
func TestReaderFails(t *testing.T) {
	bitsOf := func(n int) func(*bits.Reader) bool {
		return func(r *bits.Reader) bool { return r.Bits(n) == 0 }
	}
	bytesOf := func(n int) func(*bits.Reader) bool {
		return func(r *bits.Reader) bool { return r.Bytes(n) == "" }
	}
	cases := []struct {
		name string
		text string
		skip int
		call func(*bits.Reader) bool
	}{
		{"Bits below 0", "abcdefgh", 0, bitsOf(-1)},
		{"Bits below 0 within a byte", "abcdefgh", 3, bitsOf(-1)},
		{"Bits far below 0", "abcdefgh", 3, bitsOf(math.MinInt)},
		{"Bits below 0 of nothing", "", 0, bitsOf(-1)},
		{"Bits above 32", "abcdefgh", 0, bitsOf(33)},
		{"Bits above 32 within a byte", "abcdefgh", 5, bitsOf(33)},
		{"Bits far above 32", "abcdefgh", 5, bitsOf(math.MaxInt)},
		{"one bit of nothing", "", 0, bitsOf(1)},
		{"one bit more than a byte", "\xff", 0, bitsOf(9)},
		{"one bit more than is left", "\xff\xff", 9, bitsOf(8)},
		{"32 bits of 31", "\xff\xff\xff\xff", 1, bitsOf(32)},
		{"one bit at the end", "\xff\xff", 16, bitsOf(1)},
		{"Bytes below 0", "abc", 0, bytesOf(-1)},
		{"Bytes below 0 within a byte", "abc", 2, bytesOf(-1)},
		{"Bytes far below 0", "abc", 2, bytesOf(math.MinInt)},
		{"one byte of nothing", "", 0, bytesOf(1)},
		{"one byte more than there are", "abc", 0, bytesOf(4)},
		{"a byte that has begun", "abc", 1, bytesOf(3)},
		{"the last byte has begun", "abc", 23, bytesOf(1)},
		{"Bytes at the end", "abc", 24, bytesOf(1)},
		{"so many bytes that eight times as many wrap round", "abc", 8, bytesOf(math.MaxInt/4 + 1)},
		{"the most bytes", "abc", 8, bytesOf(math.MaxInt)},
	}
	for _, c := range cases {
		t.Run(c.name, func(t *testing.T) {
			r := bits.NewReader(c.text)
			for range c.skip {
				r.Bits(1)
			}
			at, left := c.skip, 8*len(c.text)-c.skip
			stands(t, r, at, left, api.OK)
			if !c.call(r) {
				t.Error("a call that fails answers something")
			}
			stands(t, r, at, left, api.ErrEnd)
			staysFailed(t, r, at, left)
		})
	}
}

func staysFailed(t *testing.T, r *bits.Reader, at, left int) {
	t.Helper()
	for range 2 {
		for _, n := range []int{0, 1, 8, 32, -1, 33} {
			wantBits(t, r, n, 0)
			stands(t, r, at, left, api.ErrEnd)
		}
		for _, n := range []int{0, 1, 2, -1, math.MaxInt} {
			wantBytes(t, r, n, "")
			stands(t, r, at, left, api.ErrEnd)
		}
		r.Align()
		stands(t, r, at, left, api.ErrEnd)
	}
}

func TestNilReader(t *testing.T) {
	var r *bits.Reader
	stands(t, r, 0, 0, api.ErrEnd)
	staysFailed(t, r, 0, 0)
}

func TestReadersShareNothing(t *testing.T) {
	a, b := bits.NewReader("ab"), bits.NewReader("ab")
	a.Bits(33)
	stands(t, a, 0, 16, api.ErrEnd)
	stands(t, b, 0, 16, api.OK)
	wantBytes(t, b, 2, "ab")
}

// bitsOfText is what the chapter calls the bits of bytes, each as a number of its own.
func bitsOfText(s string) []uint32 {
	var l []uint32
	for i := range len(s) {
		for k := range 8 {
			l = append(l, uint32(s[i])>>k&1)
		}
	}
	return l
}

func numberOf(l []uint32) uint32 {
	var v uint32
	for i, b := range l {
		v += b << i
	}
	return v
}

// TestReaderAgainstRowOfBits goes over texts by every number of bits from every place, against a plain row of bits.
func TestReaderAgainstRowOfBits(t *testing.T) {
	text := "\x00\xff\x5a\x81\x7e\x01\x80\x33\xcc"
	row := bitsOfText(text)
	for skip := range len(row) + 1 {
		for n := range 33 {
			r := bits.NewReader(text)
			for range skip {
				r.Bits(1)
			}
			if skip+n > len(row) {
				wantBits(t, r, n, 0)
				stands(t, r, skip, len(row)-skip, api.ErrEnd)
				continue
			}
			wantBits(t, r, n, numberOf(row[skip:skip+n]))
			stands(t, r, skip+n, len(row)-skip-n, api.OK)
		}
	}
}

func TestReaderOfALongText(t *testing.T) {
	text := strings.Repeat("0123456789abcdef", 1<<14)
	r := bits.NewReader(text)
	r.Bits(5)
	wantBytes(t, r, len(text)-1, text[1:])
	stands(t, r, 8*len(text), 0, api.OK)
}
