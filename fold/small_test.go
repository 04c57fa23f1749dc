package fold_test

import (
	"math"
	"slices"
	"testing"

	"montage/fold"
)

// holdSmall asks Small of a number, and of the same one again.
func holdSmall(t *testing.T, code, want int) {
	t.Helper()
	for range 2 {
		if got := fold.Small(code); got != want {
			t.Errorf("Small(%X): %X, not %X", code, got, want)
		}
	}
}

func TestSmallOfEdgesOfRanges(t *testing.T) {
	for _, row := range [][2]int{
		{0x40, 0x40}, {0x41, 0x61}, {0x42, 0x62}, {0x59, 0x79}, {0x5A, 0x7A}, {0x5B, 0x5B},
		{0xBF, 0xBF}, {0xC0, 0xE0}, {0xC1, 0xE1}, {0xD5, 0xF5}, {0xD6, 0xF6},
		{0xD7, 0xD7}, {0xD8, 0xF8}, {0xD9, 0xF9}, {0xDD, 0xFD}, {0xDE, 0xFE}, {0xDF, 0xDF},
		{0x390, 0x390}, {0x391, 0x3B1}, {0x392, 0x3B2}, {0x3A0, 0x3C0}, {0x3A1, 0x3C1},
		{0x3A2, 0x3A2}, {0x3A3, 0x3C3}, {0x3A4, 0x3C4}, {0x3A8, 0x3C8}, {0x3A9, 0x3C9}, {0x3AA, 0x3AA},
		{0x3FF, 0x3FF}, {0x400, 0x450}, {0x401, 0x451}, {0x40E, 0x45E}, {0x40F, 0x45F},
		{0x410, 0x430}, {0x411, 0x431}, {0x42E, 0x44E}, {0x42F, 0x44F}, {0x430, 0x430},
	} {
		holdSmall(t, row[0], row[1])
	}
}

func TestSmallOfLettersOfNoRange(t *testing.T) {
	for _, code := range []int{
		'a', 'z', '0', ' ', '/', 0, 0x7F, 0x80, 0xB5, 0xE0, 0xF7, 0xFE, 0xFF, 0x100, 0x130, 0x131, 0x178, 0x17F, 0x1C4,
		0x370, 0x386, 0x388, 0x38F, 0x3AB, 0x3B1, 0x3C2, 0x3C9, 0x3F4, 0x44F, 0x450, 0x45F, 0x460, 0x531, 0x10A0, 0x1E9E,
		0x2126, 0x212A, 0x212B, 0xD7FF, 0xD800, 0xDFFF, 0xFF21, 0xFFFD, 0x10400, 0x10FFFF,
	} {
		holdSmall(t, code, code)
	}
}

func TestSmallOfNumbersThatAreNoCodePoints(t *testing.T) {
	for _, code := range []int{
		-1, -2, -32, -80, -0x41, -0x5A, -0xC0, -0x400, 0x110000, 0x110041, 0x1FFFFF, 0x7FFFFFFF,
		math.MinInt8, math.MinInt16, math.MinInt32, math.MinInt64, math.MinInt64 + 1, math.MaxInt64, math.MaxInt64 - 1,
		math.MaxInt64 - 31, math.MaxInt64 - 32, math.MaxInt64 - 79, math.MaxInt64 - 80,
	} {
		holdSmall(t, code, code)
	}
}

// A number whose last bits are a letter's is none of the letter.
func TestSmallLooksAtTheWholeNumber(t *testing.T) {
	for code := 0x41; code <= 0x42F; code++ {
		for bit := 11; bit < 64; bit++ {
			further := code + 1<<bit
			holdSmall(t, further, further)
		}
		holdSmall(t, -code, -code)
		holdSmall(t, ^code, ^code)
		holdSmall(t, math.MinInt+code, math.MinInt+code)
	}
}

func TestSmallOfEachCodePoint(t *testing.T) {
	for code := -0x1000; code < 0x200000; code++ {
		if got := fold.Small(code); got != smallBy(code) {
			t.Fatalf("Small(%X): %X, not %X", code, got, smallBy(code))
		}
	}
}

func TestSmallOfASmallLetterIsItself(t *testing.T) {
	for code := range 0x110000 {
		small := fold.Small(code)
		if again := fold.Small(small); again != small {
			t.Fatalf("Small of %X, the small letter of %X, is %X", small, code, again)
		}
	}
}

func TestTableIsTheChapters(t *testing.T) {
	want := [][3]int{
		{0x41, 0x5A, 32}, {0xC0, 0xD6, 32}, {0xD8, 0xDE, 32}, {0x391, 0x3A1, 32}, {0x3A3, 0x3A9, 32},
		{0x400, 0x40F, 80}, {0x410, 0x42F, 32},
	}
	if got := fold.Table(); !slices.Equal(got, want) {
		t.Errorf("Table: %X, not %X", got, want)
	}
}

func TestTableRises(t *testing.T) {
	last := -1
	for _, row := range fold.Table() {
		if row[0] <= last {
			t.Errorf("%X begins no further than at %X, where the one ahead ends", row, last)
		}
		if row[1] < row[0] {
			t.Errorf("%X is empty", row)
		}
		if row[2] == 0 {
			t.Errorf("%X says 0 more", row)
		}
		last = row[1]
	}
}

func TestTableSaysWhatSmallSays(t *testing.T) {
	more := map[int]int{}
	for _, row := range fold.Table() {
		for code := row[0]; code <= row[1]; code++ {
			more[code] += row[2]
		}
	}
	for code := range 0x110000 {
		if got := fold.Small(code); got != code+more[code] {
			t.Fatalf("Small(%X): %X, and %X by the table", code, got, code+more[code])
		}
	}
}

func TestTableIsTheCallersOwn(t *testing.T) {
	kept := fold.Table()
	spoilt := fold.Table()
	for i := range spoilt {
		spoilt[i] = [3]int{0, 0x10FFFF, 1}
	}
	if got := fold.Table(); !slices.Equal(got, kept) {
		t.Errorf("Table, once an answer was written to: %X, not %X", got, kept)
	}
	holdSmall(t, 'A', 'a')
	holdSmall(t, '0', '0')
}
