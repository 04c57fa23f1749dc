package bits_test

import (
	"math"
	"testing"

	"montage/bits"
)

func holds(t *testing.T, w *bits.Writer, count int, text string) {
	t.Helper()
	if w.Len() != count || w.Text() != text {
		t.Errorf("Len %d, Text %q; want %d, %q", w.Len(), w.Text(), count, text)
	}
}

func TestNewWriterHoldsNothing(t *testing.T) {
	holds(t, bits.NewWriter(), 0, "")
}

func TestPut(t *testing.T) {
	w := bits.NewWriter()
	w.Put(5, 3)
	holds(t, w, 3, "\x05")
	w.Put(1, 1)
	holds(t, w, 4, "\x0d")
	w.Put(0xf, 4)
	holds(t, w, 8, "\xfd")
	w.Put(0, 1)
	holds(t, w, 9, "\xfd\x00")
}

func TestPutTakesTheLowestBits(t *testing.T) {
	w := bits.NewWriter()
	w.Put(0xfffffffa, 3)
	holds(t, w, 3, "\x02")
	w.Put(0xfffffff0, 4)
	holds(t, w, 7, "\x02")
	w.Put(0xffffffff, 1)
	holds(t, w, 8, "\x82")
}

func TestPutCrossesBytes(t *testing.T) {
	for skip := range 8 {
		w := bits.NewWriter()
		w.Put(0, skip)
		w.Put(0xdeadbeef, 32)
		all := uint64(0xdeadbeef) << skip
		var want string
		for i := 0; 8*i < skip+32; i++ {
			want += string([]byte{byte(all >> (8 * i))})
		}
		holds(t, w, skip+32, want)
	}
	w := bits.NewWriter()
	w.Put(0, 7)
	w.Put(3, 2)
	holds(t, w, 9, "\x80\x01")
}

func TestPutOfNone(t *testing.T) {
	for _, n := range []int{0, -1, -5, -33, math.MinInt} {
		w := bits.NewWriter()
		w.Put(0xffffffff, n)
		holds(t, w, 0, "")
		w.Put(1, 3)
		w.Put(0xffffffff, n)
		holds(t, w, 3, "\x01")
		w.Put(0, 5)
		w.Put(0xffffffff, n)
		holds(t, w, 8, "\x01")
	}
}

func TestPutOfThirtyTwoAndMore(t *testing.T) {
	for _, n := range []int{32, 33, 64, 99, math.MaxInt} {
		w := bits.NewWriter()
		w.Put(0x84030201, n)
		holds(t, w, 32, "\x01\x02\x03\x84")
		w.Put(1, 1)
		w.Put(0xffffffff, n)
		holds(t, w, 65, "\x01\x02\x03\x84\xff\xff\xff\xff\x01")
	}
}

func TestAlignOfWriter(t *testing.T) {
	w := bits.NewWriter()
	w.Align()
	holds(t, w, 0, "")
	for n := 1; n < 8; n++ {
		w = bits.NewWriter()
		w.Put(1, n)
		w.Align()
		holds(t, w, 8, "\x01")
		w.Align()
		holds(t, w, 8, "\x01")
		w.Put(0x0203, 16)
		w.Align()
		holds(t, w, 24, "\x01\x03\x02")
	}
}

func TestWrite(t *testing.T) {
	w := bits.NewWriter()
	w.Write("")
	holds(t, w, 0, "")
	w.Write("ab\x00\xff")
	holds(t, w, 32, "ab\x00\xff")
	w.Write("c")
	holds(t, w, 40, "ab\x00\xffc")
	w.Put(1, 1)
	holds(t, w, 41, "ab\x00\xffc\x01")
}

func TestWriteWithinAByte(t *testing.T) {
	for n := 1; n < 8; n++ {
		w := bits.NewWriter()
		w.Put(1, n)
		w.Write("xy")
		holds(t, w, 24, "\x01xy")

		w = bits.NewWriter()
		w.Put(1, n)
		w.Write("")
		holds(t, w, 8, "\x01")
		w.Put(3, 2)
		holds(t, w, 10, "\x01\x03")
	}
}

func TestTextStaysTheCallers(t *testing.T) {
	w := bits.NewWriter()
	w.Put(1, 1)
	early := w.Text()
	w.Put(0x7f, 7)
	w.Write("more")
	if early != "\x01" {
		t.Errorf("a text that was answered is %q now", early)
	}
	if w.Text() != w.Text() || w.Text() != "\xffmore" {
		t.Errorf("Text %q", w.Text())
	}
}

func TestWritersShareNothing(t *testing.T) {
	a, b := bits.NewWriter(), bits.NewWriter()
	a.Put(3, 2)
	b.Write("b")
	holds(t, a, 2, "\x03")
	holds(t, b, 8, "b")
}

func TestNilWriter(t *testing.T) {
	var w *bits.Writer
	for _, n := range []int{math.MinInt, -1, 0, 1, 32, 33, math.MaxInt} {
		w.Put(7, n)
		holds(t, w, 0, "")
	}
	w.Align()
	holds(t, w, 0, "")
	w.Write("a")
	w.Write("")
	holds(t, w, 0, "")
}

// TestWriterAgainstRowOfBits puts each number of bits behind each number of bits, against a plain row of bits.
func TestWriterAgainstRowOfBits(t *testing.T) {
	const v, next = 0x9e3779b9, 0x7f4a7c15
	for first := range 33 {
		for second := range 33 {
			w := bits.NewWriter()
			w.Put(v, first)
			w.Put(next, second)
			row := append(lowBits(v, first), lowBits(next, second)...)
			holds(t, w, len(row), textOf(row))
		}
	}
}

func lowBits(v uint32, n int) []uint32 {
	var l []uint32
	for i := range n {
		l = append(l, v>>i&1)
	}
	return l
}

func textOf(row []uint32) string {
	text := make([]byte, (len(row)+7)/8)
	for i, b := range row {
		text[i/8] |= byte(b) << (i % 8)
	}
	return string(text)
}
