package token_test

import (
	"math"
	"testing"

	"montage/api"
	"montage/token"
)

// symbolRow is a symbol: the first number that it is for, and how many bits are behind it.
type symbolRow struct {
	symbol, from, width int
}

var lengthRows = []symbolRow{
	{257, 3, 0}, {258, 4, 0}, {259, 5, 0}, {260, 6, 0}, {261, 7, 0}, {262, 8, 0}, {263, 9, 0}, {264, 10, 0},
	{265, 11, 1}, {266, 13, 1}, {267, 15, 1}, {268, 17, 1},
	{269, 19, 2}, {270, 23, 2}, {271, 27, 2}, {272, 31, 2},
	{273, 35, 3}, {274, 43, 3}, {275, 51, 3}, {276, 59, 3},
	{277, 67, 4}, {278, 83, 4}, {279, 99, 4}, {280, 115, 4},
	{281, 131, 5}, {282, 163, 5}, {283, 195, 5}, {284, 227, 5},
	{285, 258, 0},
}

var distanceRows = []symbolRow{
	{0, 1, 0}, {1, 2, 0}, {2, 3, 0}, {3, 4, 0},
	{4, 5, 1}, {5, 7, 1}, {6, 9, 2}, {7, 13, 2}, {8, 17, 3}, {9, 25, 3},
	{10, 33, 4}, {11, 49, 4}, {12, 65, 5}, {13, 97, 5}, {14, 129, 6}, {15, 193, 6},
	{16, 257, 7}, {17, 385, 7}, {18, 513, 8}, {19, 769, 8}, {20, 1025, 9}, {21, 1537, 9},
	{22, 2049, 10}, {23, 3073, 10}, {24, 4097, 11}, {25, 6145, 11}, {26, 8193, 12}, {27, 12289, 12},
	{28, 16385, 13}, {29, 24577, 13},
}

// said is what a symbol and a number behind it are.
type said struct {
	symbol, width, more int
}

// saidBy answers what says each number from 0 up to last, by rows.
func saidBy(rows []symbolRow, last int) []said {
	all := make([]said, last+1)
	for _, row := range rows {
		for more := range 1 << row.width {
			if n := row.from + more; n <= last {
				all[n] = said{row.symbol, row.width, more}
			}
		}
	}
	return all
}

func TestRowsAreThoseOfTheChapter(t *testing.T) {
	for _, c := range []struct {
		rows                        []symbolRow
		symbol, from, plain, atOnce int
		widest                      int
	}{{lengthRows, 257, 3, 8, 4, 5}, {distanceRows, 0, 1, 4, 2, 13}} {
		want := []symbolRow{}
		from := c.from
		add := func(width int) {
			want = append(want, symbolRow{c.symbol + len(want), from, width})
			from += 1 << width
		}
		for range c.plain {
			add(0)
		}
		for width := 1; width <= c.widest; width++ {
			for range c.atOnce {
				add(width)
			}
		}
		for i, row := range want {
			if c.rows[i] != row {
				t.Errorf("%+v, want %+v", c.rows[i], row)
			}
		}
	}
}

func TestLengthOfEachLength(t *testing.T) {
	for n, want := range saidBy(lengthRows, 258) {
		symbol, width, more, ok := token.Length(n)
		if n < 3 {
			if symbol != 0 || width != 0 || more != 0 || ok {
				t.Errorf("Length(%d) = %d, %d, %d, %v", n, symbol, width, more, ok)
			}
			continue
		}
		if (said{symbol, width, more}) != want || !ok {
			t.Errorf("Length(%d) = %d, %d, %d, %v; want %+v", n, symbol, width, more, ok, want)
		}
		if again, ok := token.LengthOf(symbol, more); again != n || !ok {
			t.Errorf("LengthOf(%d, %d) = %d, %v; want %d", symbol, more, again, ok, n)
		}
	}
}

func TestDistanceOfEachDistance(t *testing.T) {
	for n, want := range saidBy(distanceRows, 32768) {
		symbol, width, more, ok := token.Distance(n)
		if n < 1 {
			if symbol != 0 || width != 0 || more != 0 || ok {
				t.Errorf("Distance(%d) = %d, %d, %d, %v", n, symbol, width, more, ok)
			}
			continue
		}
		if (said{symbol, width, more}) != want || !ok {
			t.Errorf("Distance(%d) = %d, %d, %d, %v; want %+v", n, symbol, width, more, ok, want)
		}
		if again, ok := token.DistanceOf(symbol, more); again != n || !ok {
			t.Errorf("DistanceOf(%d, %d) = %d, %v; want %d", symbol, more, again, ok, n)
		}
	}
}

func TestLengthAndDistanceOfOthers(t *testing.T) {
	others := []int{math.MinInt, math.MinInt + 1, math.MinInt + 3, -32768, -258, -3, -1, 0, 32769, 32770, 65536, 1 << 32, 1<<32 + 3, math.MaxInt - 1, math.MaxInt}
	for _, n := range append(others, 1, 2, 259, 260, 512, 32768) {
		if symbol, width, more, ok := token.Length(n); symbol != 0 || width != 0 || more != 0 || ok {
			t.Errorf("Length(%d) = %d, %d, %d, %v", n, symbol, width, more, ok)
		}
	}
	for _, n := range others {
		if symbol, width, more, ok := token.Distance(n); symbol != 0 || width != 0 || more != 0 || ok {
			t.Errorf("Distance(%d) = %d, %d, %d, %v", n, symbol, width, more, ok)
		}
	}
}

// numbersFor answers numbers to be tried behind a symbol of so many bits.
func numbersFor(width int) []int {
	list := []int{math.MinInt, math.MinInt + 1, -8192, -31, -2, -1}
	for more := range 1<<width + 3 {
		list = append(list, more)
	}
	return append(list, 1<<width+31, 1<<14, 1<<32, math.MaxInt-1, math.MaxInt)
}

func TestLengthOfEachSymbol(t *testing.T) {
	for _, row := range lengthRows {
		for _, more := range numbersFor(row.width) {
			want, is := 0, false
			if more >= 0 && more < 1<<row.width && !(row.symbol == 284 && more == 31) {
				want, is = row.from+more, true
			}
			if n, ok := token.LengthOf(row.symbol, more); n != want || ok != is {
				t.Errorf("LengthOf(%d, %d) = %d, %v; want %d, %v", row.symbol, more, n, ok, want, is)
			}
		}
	}
}

func TestDistanceOfEachSymbol(t *testing.T) {
	for _, row := range distanceRows {
		for _, more := range numbersFor(row.width) {
			want, is := 0, false
			if more >= 0 && more < 1<<row.width {
				want, is = row.from+more, true
			}
			if n, ok := token.DistanceOf(row.symbol, more); n != want || ok != is {
				t.Errorf("DistanceOf(%d, %d) = %d, %v; want %d, %v", row.symbol, more, n, ok, want, is)
			}
		}
	}
}

func TestTheLastLength(t *testing.T) {
	if symbol, width, more, ok := token.Length(api.MaxMatch); symbol != 285 || width != 0 || more != 0 || !ok {
		t.Error(symbol, width, more, ok)
	}
	if n, ok := token.LengthOf(285, 0); n != 258 || !ok {
		t.Error(n, ok)
	}
	if n, ok := token.LengthOf(284, 30); n != 257 || !ok {
		t.Error(n, ok)
	}
	for _, c := range [][2]int{{284, 31}, {284, 32}, {284, -1}, {285, 1}, {285, 31}, {285, -1}} {
		if n, ok := token.LengthOf(c[0], c[1]); n != 0 || ok {
			t.Errorf("LengthOf(%d, %d) = %d, %v", c[0], c[1], n, ok)
		}
	}
}

func TestSymbolsThatAreNone(t *testing.T) {
	others := []int{math.MinInt, math.MinInt + 257, -258, -257, -30, -2, -1, 286, 287, 288, 300, 1 << 20, 1 << 32, 1<<32 + 257, math.MaxInt - 257, math.MaxInt}
	for _, more := range numbersFor(5) {
		for _, symbol := range append(others, 0, 1, 29, 30, 255, 256) {
			if n, ok := token.LengthOf(symbol, more); n != 0 || ok {
				t.Errorf("LengthOf(%d, %d) = %d, %v", symbol, more, n, ok)
			}
		}
		for _, symbol := range append(others, 30, 31, 32, 256, 257, 285) {
			if n, ok := token.DistanceOf(symbol, more); n != 0 || ok {
				t.Errorf("DistanceOf(%d, %d) = %d, %v", symbol, more, n, ok)
			}
		}
	}
}
