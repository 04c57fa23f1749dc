package prefix_test

import (
	"math"
	"slices"
	"testing"

	"montage/api"
	"montage/bits"
	"montage/prefix"
)

func wantWritten(t *testing.T, w *bits.Writer, row string) {
	t.Helper()
	if w.Len() != len(row) || w.Text() != textOf(row) {
		t.Errorf("%d bits, %x; want %d, %x (%s)", w.Len(), w.Text(), len(row), textOf(row), row)
	}
}

func wantWrite(t *testing.T, x *prefix.Table, w *bits.Writer, symbol int, want api.Errno) {
	t.Helper()
	if err := x.Write(w, symbol); err != want {
		t.Errorf("Write of %d: %d, want %d", symbol, err, want)
	}
}

func TestWriteExample(t *testing.T) {
	x := newTable(t, []int{2, 1, 3, 3})
	for symbol, row := range []string{"10", "0", "110", "111"} {
		w := bits.NewWriter()
		wantWrite(t, x, w, symbol, api.OK)
		wantWritten(t, w, row)
		if x.Bits(symbol) != len(row) {
			t.Errorf("Bits(%d) = %d", symbol, x.Bits(symbol))
		}
	}
	w := bits.NewWriter()
	for _, symbol := range []int{0, 1, 2, 3, 1} {
		wantWrite(t, x, w, symbol, api.OK)
	}
	wantWritten(t, w, "1001101110")
	if w.Text() != "\xd9\x01" {
		t.Errorf("%x", w.Text())
	}
}

// TestWriteEachCode writes each symbol behind up to eight bits.
func TestWriteEachCode(t *testing.T) {
	codes := [][]int{
		{1, 1}, {1}, {0, 0, 1}, {0, 4, 4, 0, 3, 2, 1},
		append(rising(15), 15), fixed(), times(32, 5), append(times(224, 8), times(64, 9)...),
	}
	for _, lengths := range codes {
		x := newTable(t, lengths)
		numbers := codesByDefinition(lengths)
		for symbol, n := range lengths {
			if x.Bits(symbol) != n {
				t.Errorf("Bits(%d) = %d, want %d", symbol, x.Bits(symbol), n)
			}
			if n == 0 {
				continue
			}
			for skip := range 9 {
				w := bits.NewWriter()
				w.Put(0, skip)
				wantWrite(t, x, w, symbol, api.OK)
				wantWritten(t, w, rowOf(0, skip)+rowOf(numbers[symbol], n))
			}
		}
	}
}

func TestWriteOfFifteenBits(t *testing.T) {
	x := newTable(t, append(rising(15), 15))
	w := bits.NewWriter()
	wantWrite(t, x, w, 14, api.OK)
	wantWrite(t, x, w, 15, api.OK)
	wantWritten(t, w, "111111111111110"+"111111111111111")
	if x.Bits(14) != 15 || x.Bits(15) != 15 {
		t.Error(x.Bits(14), x.Bits(15))
	}
}

func TestSymbolsWithoutACode(t *testing.T) {
	cases := []struct {
		lengths, symbols []int
	}{
		{[]int{2, 1, 3, 3}, []int{-1, 4, 5}},
		{[]int{0, 1, 0, 1, 0}, []int{-1, 0, 2, 4, 5}},
		{[]int{0, 0, 1}, []int{0, 1, 3, -3}},
		{[]int{0, 0}, []int{-1, 0, 1, 2}},
		{nil, []int{-1, 0, 1}},
		{times(288, 0), []int{-1, 0, 287, 288}},
		{fixed(), []int{-1, 288, 289, 1 << 16}},
	}
	for _, c := range cases {
		x := newTable(t, c.lengths)
		for _, symbol := range append(c.symbols, math.MinInt, math.MaxInt, 1<<32, -1<<32) {
			w := bits.NewWriter()
			w.Put(5, 3)
			wantWrite(t, x, w, symbol, api.ErrArg)
			wantWritten(t, w, "101")
			wantWrite(t, x, nil, symbol, api.ErrArg)
			if got := x.Bits(symbol); got != 0 {
				t.Errorf("Bits(%d) of %v = %d", symbol, c.lengths, got)
			}
		}
	}
}

func TestWriteOfANilWriter(t *testing.T) {
	x := newTable(t, []int{2, 1, 3, 3, 0})
	var w *bits.Writer
	for symbol := range 4 {
		wantWrite(t, x, w, symbol, api.OK)
	}
	wantWrite(t, x, w, 4, api.ErrArg)
	if w.Len() != 0 || w.Text() != "" {
		t.Error(w.Len(), w.Text())
	}
}

func TestWriteOfANilTable(t *testing.T) {
	var x *prefix.Table
	for _, symbol := range []int{0, 1, -1, 288, math.MinInt, math.MaxInt} {
		w := bits.NewWriter()
		w.Put(1, 1)
		wantWrite(t, x, w, symbol, api.ErrArg)
		wantWritten(t, w, "1")
		wantWrite(t, x, nil, symbol, api.ErrArg)
		if x.Bits(symbol) != 0 {
			t.Errorf("Bits(%d) = %d", symbol, x.Bits(symbol))
		}
	}
}

// A table keeps none of the lengths that it was made of.
func TestTableStaysWhenLengthsChange(t *testing.T) {
	lengths := []int{2, 1, 3, 3}
	x := newTable(t, lengths)
	copy(lengths, []int{3, 3, 1, 2})
	w := bits.NewWriter()
	var all []int
	for symbol := range 4 {
		wantWrite(t, x, w, symbol, api.OK)
		all = append(all, x.Bits(symbol))
	}
	wantWritten(t, w, "100110111")
	if !slices.Equal(all, []int{2, 1, 3, 3}) {
		t.Error(all)
	}
	r := bits.NewReader(w.Text())
	for symbol, behind := range []int{2, 3, 6, 9} {
		wantSymbol(t, x, r, symbol, behind)
	}
}

func TestTablesShareNothing(t *testing.T) {
	a, b := newTable(t, []int{2, 1, 3, 3}), newTable(t, []int{1, 2, 3, 3})
	v, w := bits.NewWriter(), bits.NewWriter()
	wantWrite(t, a, v, 0, api.OK)
	wantWrite(t, b, w, 0, api.OK)
	wantWritten(t, v, "10")
	wantWritten(t, w, "0")
}
