package prefix_test

import (
	"strings"
	"testing"

	"montage/api"
	"montage/bits"
	"montage/prefix"
)

func newTable(t *testing.T, lengths []int) *prefix.Table {
	t.Helper()
	x, err := prefix.New(lengths)
	if x == nil || err != api.OK {
		t.Fatalf("New(%v) = %v, %d", lengths, x, err)
	}
	return x
}

// textOf makes bytes of bits that are written as 0 and 1, blanks between them as one likes.
func textOf(row string) string {
	w := bits.NewWriter()
	for _, c := range strings.ReplaceAll(row, " ", "") {
		w.Put(uint32(c-'0'), 1)
	}
	return w.Text()
}

// failed answers a reader that has failed, with all bits of s still to come.
func failed(s string) *bits.Reader {
	r := bits.NewReader(s)
	r.Bits(-1)
	return r
}

// at answers a reader that stands at that bit of s.
func at(s string, place int) *bits.Reader {
	r := bits.NewReader(s)
	for range place {
		r.Bits(1)
	}
	return r
}

func wantSymbol(t *testing.T, x *prefix.Table, r *bits.Reader, symbol, behind int) {
	t.Helper()
	got, err := x.Read(r)
	if got != symbol || err != api.OK || r.At() != behind || r.Err() != api.OK {
		t.Errorf("Read: %d, %d, at %d, reader's error %d; want %d at %d", got, err, r.At(), r.Err(), symbol, behind)
	}
}

func wantRefused(t *testing.T, x *prefix.Table, r *bits.Reader, want api.Errno) {
	t.Helper()
	if got, err := x.Read(r); got != 0 || err != want {
		t.Errorf("Read: %d, %d; want the error %d", got, err, want)
	}
}

func TestReadExample(t *testing.T) {
	x := newTable(t, []int{2, 1, 3, 3})
	r := bits.NewReader(textOf("10 0 110 111 0 111 10"))
	for _, c := range []struct{ symbol, behind int }{{0, 2}, {1, 3}, {2, 6}, {3, 9}, {1, 10}, {3, 13}, {0, 15}, {1, 16}} {
		wantSymbol(t, x, r, c.symbol, c.behind)
	}
	wantRefused(t, x, r, api.ErrEnd)
}

func TestReadHighestBitFirst(t *testing.T) {
	x := newTable(t, times(4, 2))
	for symbol, row := range []string{"00", "01", "10", "11"} {
		wantSymbol(t, x, bits.NewReader(textOf(row)), symbol, 2)
	}
}

// codeByDefinition answers which symbol's code begins the row of bits, and its length.
func codeByDefinition(lengths []int, row string) (int, int) {
	codes := codesByDefinition(lengths)
	for symbol, n := range lengths {
		if n > 0 && n <= len(row) && rowOf(codes[symbol], n) == row[:n] {
			return symbol, n
		}
	}
	return 0, 0
}

// rowOf writes the lowest n bits of a number as 0 and 1, the highest first.
func rowOf(number, n int) string {
	row := ""
	for range n {
		row = string(rune('0'+number&1)) + row
		number >>= 1
	}
	return row
}

// TestReadAgainstCodes reads each row of 16 bits by codes of many shapes.
func TestReadAgainstCodes(t *testing.T) {
	codes := [][]int{
		{2, 1, 3, 3},
		{1, 1},
		{0, 4, 4, 0, 3, 2, 1},
		{1, 4, 4, 4, 4, 4, 4, 4, 4},
		append(rising(15), 15),
		{15, 15, 14, 13, 12, 11, 10, 9, 8, 7, 6, 5, 4, 3, 2, 1},
	}
	for _, lengths := range codes {
		x := newTable(t, lengths)
		for number := range 1 << 16 {
			row := rowOf(number, 16)
			symbol, n := codeByDefinition(lengths, row)
			if wantSymbol(t, x, bits.NewReader(textOf(row)), symbol, n); t.Failed() {
				t.Fatalf("bits %s by %v", row, lengths)
			}
		}
	}
}

func TestReadEachCodeAtEachBit(t *testing.T) {
	for _, lengths := range [][]int{fixed(), times(32, 5), append(times(224, 8), times(64, 9)...)} {
		x := newTable(t, lengths)
		codes := codesByDefinition(lengths)
		for symbol, n := range lengths {
			for skip := range 9 {
				row := strings.Repeat("1", skip) + rowOf(codes[symbol], n)
				wantSymbol(t, x, at(textOf(row+"0"), skip), symbol, skip+n)
				wantSymbol(t, x, at(textOf(row+"1"), skip), symbol, skip+n)
			}
		}
	}
}

func TestReadUpToTheLastBit(t *testing.T) {
	x := newTable(t, append(rising(15), 15))
	wantSymbol(t, x, at("\xff\xff", 1), 15, 16)
	wantSymbol(t, x, at("\xff\x7f", 1), 14, 16)
	wantSymbol(t, x, at("\xff\xfe", 7), 1, 9)
	wantSymbol(t, x, at("\x7f", 7), 0, 8)
}

func TestReadEndsWithinACode(t *testing.T) {
	x := newTable(t, append(rising(15), 15))
	for left := 1; left <= 14; left++ {
		wantRefused(t, x, at("\xff\xff", 16-left), api.ErrEnd)
	}
	for _, left := range []int{1, 2, 6} {
		wantRefused(t, newTable(t, fixed()), at("\x00", 8-left), api.ErrEnd)
	}
	wantRefused(t, newTable(t, []int{2, 1, 3, 3}), at("\x80", 7), api.ErrEnd)
	wantRefused(t, newTable(t, times(4, 2)), at("\x00", 7), api.ErrEnd)
}

func TestReadEndsAheadOfACode(t *testing.T) {
	for _, lengths := range [][]int{{2, 1, 3, 3}, {1, 1}, {1}, {0, 0, 1}, fixed()} {
		x := newTable(t, lengths)
		wantRefused(t, x, bits.NewReader(""), api.ErrEnd)
		wantRefused(t, x, at("\x00", 8), api.ErrEnd)
		wantRefused(t, x, at("\xff\xff", 16), api.ErrEnd)
	}
}

func TestReadOfAReaderThatHasFailed(t *testing.T) {
	for _, lengths := range [][]int{{2, 1, 3, 3}, {1, 1}, {1}, {0, 0, 1}, fixed(), append(rising(15), 15)} {
		x := newTable(t, lengths)
		for _, s := range []string{"", "\x00\x00\x00", "\xff\xff\xff"} {
			r := failed(s)
			wantRefused(t, x, r, api.ErrEnd)
			wantRefused(t, x, r, api.ErrEnd)
			if r.At() != 0 || r.Err() != api.ErrEnd {
				t.Errorf("a failed reader goes on to %d", r.At())
			}
		}
	}
	// A reader that fails in one call stays so in the next ones.
	r := at("\x80", 7)
	wantRefused(t, newTable(t, []int{2, 1, 3, 3}), r, api.ErrEnd)
	wantRefused(t, newTable(t, []int{1, 1}), r, api.ErrEnd)
}

func TestReadLone(t *testing.T) {
	for symbol, lengths := range [][]int{{1}, {0, 1}, {0, 0, 1}, {0, 0, 0, 1, 0, 0}} {
		x := newTable(t, lengths)
		r := bits.NewReader("\x00")
		for behind := 1; behind <= 8; behind++ {
			wantSymbol(t, x, r, symbol, behind)
		}
		wantRefused(t, x, r, api.ErrEnd)
		wantRefused(t, x, bits.NewReader("\x01"), api.ErrCode)
		wantRefused(t, x, bits.NewReader("\xff\xff\xff"), api.ErrCode)
		wantSymbol(t, x, at("\x7f", 7), symbol, 8)
	}
	x := newTable(t, append(times(287, 0), 1))
	wantSymbol(t, x, bits.NewReader("\xfe"), 287, 1)
	wantRefused(t, x, bits.NewReader("\x01"), api.ErrCode)
}

// Where one bit is left, the wrong one is told as such: no further bit is asked for.
func TestReadLoneBehindOneBit(t *testing.T) {
	wantRefused(t, newTable(t, []int{0, 1}), at("\x80", 7), api.ErrCode)
	for left := 2; left <= 16; left++ {
		wantRefused(t, newTable(t, []int{0, 1}), at("\xff\xff", 16-left), api.ErrCode)
	}
}

func TestReadEmpty(t *testing.T) {
	for _, lengths := range [][]int{nil, {}, {0}, times(288, 0)} {
		x := newTable(t, lengths)
		for _, r := range []*bits.Reader{
			bits.NewReader(""), bits.NewReader("\x00"), bits.NewReader("\xff\xff"), at("\xff", 3), at("\x00", 8),
			failed(""), failed("\x00\x00"), nil,
		} {
			wantRefused(t, x, r, api.ErrCode)
		}
	}
}

func TestReadOfANilReader(t *testing.T) {
	for _, lengths := range [][]int{{2, 1, 3, 3}, {1, 1}, {1}, {0, 0, 1}, fixed(), append(rising(15), 15)} {
		wantRefused(t, newTable(t, lengths), nil, api.ErrEnd)
	}
}

func TestReadOfANilTable(t *testing.T) {
	var x *prefix.Table
	wantRefused(t, x, nil, api.ErrArg)
	wantRefused(t, x, bits.NewReader(""), api.ErrArg)
	wantRefused(t, x, failed("\x00"), api.ErrArg)
	r := at("\x00\xff", 5)
	wantRefused(t, x, r, api.ErrArg)
	if r.At() != 5 || r.Err() != api.OK {
		t.Errorf("the reader is at %d, error %d", r.At(), r.Err())
	}
}

// A table that New didn't make has no lengths, so that it stands for an empty code.
func TestZeroTable(t *testing.T) {
	x := &prefix.Table{}
	wantRefused(t, x, bits.NewReader("\x00"), api.ErrCode)
	wantRefused(t, x, nil, api.ErrCode)
	if x.Write(bits.NewWriter(), 0) != api.ErrArg || x.Bits(0) != 0 {
		t.Error("a symbol of no lengths")
	}
}

func TestReadersOfOneTable(t *testing.T) {
	x := newTable(t, []int{2, 1, 3, 3})
	a, b := bits.NewReader(textOf("110 0")), bits.NewReader(textOf("10 111"))
	wantSymbol(t, x, a, 2, 3)
	wantSymbol(t, x, b, 0, 2)
	wantSymbol(t, x, a, 1, 4)
	wantSymbol(t, x, b, 3, 5)
}
