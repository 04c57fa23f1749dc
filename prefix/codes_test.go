package prefix_test

import (
	"math"
	"math/rand"
	"slices"
	"testing"

	"montage/api"
	"montage/prefix"
)

const (
	isFull  = 0
	isLone  = 1
	isEmpty = 2
)

// times answers n lengths that are all the same.
func times(n, length int) []int {
	return slices.Repeat([]int{length}, n)
}

// rising answers the lengths from 1 up to most.
func rising(most int) []int {
	var l []int
	for n := 1; n <= most; n++ {
		l = append(l, n)
	}
	return l
}

// fixed is the code of streams that bring none of their own.
func fixed() []int {
	return slices.Concat(times(144, 8), times(112, 9), times(24, 7), times(8, 8))
}

// kindByDefinition adds up how full lengths are, as the chapter's words do it.
func kindByDefinition(lengths []int) (int, api.Errno) {
	if len(lengths) > 288 {
		return 0, api.ErrArg
	}
	filled, others, last := 0, 0, 0
	for _, n := range lengths {
		if n < 0 || n > 15 {
			return 0, api.ErrArg
		}
		if n != 0 {
			filled += int(math.Pow(2, float64(15-n)))
			others, last = others+1, n
		}
	}
	switch {
	case filled == 32768:
		return isFull, api.OK
	case others == 1 && last == 1:
		return isLone, api.OK
	case others == 0:
		return isEmpty, api.OK
	}
	return 0, api.ErrCode
}

// codesByDefinition numbers symbols one after the other, as the chapter's words do it.
func codesByDefinition(lengths []int) []int {
	codes := make([]int, len(lengths))
	number, ahead := -1, 0
	for n := 1; n <= 15; n++ {
		for symbol, length := range lengths {
			if length != n {
				continue
			}
			number++
			for ; ahead != 0 && ahead < n; ahead++ {
				number *= 2
			}
			ahead = n
			codes[symbol] = number
		}
	}
	return codes
}

// wantKind holds Check, Codes and New of the same lengths against one kind, or one error.
func wantKind(t *testing.T, lengths []int, kind int, err api.Errno) {
	t.Helper()
	before := slices.Clone(lengths)
	k, e := prefix.Check(lengths)
	if k != kind || e != err {
		t.Errorf("Check(%v) = %d, %d; want %d, %d", lengths, k, e, kind, err)
	}
	var wanted []int
	if err == api.OK {
		wanted = codesByDefinition(lengths)
	}
	codes, e := prefix.Codes(lengths)
	if !slices.Equal(codes, wanted) || e != err {
		t.Errorf("Codes(%v) = %v, %d; want %v, %d", lengths, codes, e, wanted, err)
	}
	table, e := prefix.New(lengths)
	if (table != nil) != (err == api.OK) || e != err {
		t.Errorf("New(%v) = %v, %d; want the error %d", lengths, table, e, err)
	}
	if !slices.Equal(lengths, before) {
		t.Errorf("lengths %v are changed to %v", before, lengths)
	}
}

func TestKinds(t *testing.T) {
	cases := []struct {
		name    string
		lengths []int
		kind    int
	}{
		{"the example", []int{2, 1, 3, 3}, isFull},
		{"two of one bit", []int{1, 1}, isFull},
		{"two of one bit among zeros", []int{0, 1, 0, 0, 1, 0}, isFull},
		{"four of two bits", times(4, 2), isFull},
		{"falling", []int{3, 3, 2, 1}, isFull},
		{"each length up to 15, and one more", append(rising(15), 15), isFull},
		{"the same from behind", append([]int{15, 15}, 14, 13, 12, 11, 10, 9, 8, 7, 6, 5, 4, 3, 2, 1), isFull},
		{"one of one bit, and many of fifteen", slices.Concat([]int{1}, rising(9)[1:], times(64, 15)), isFull},
		{"the fixed symbols", fixed(), isFull},
		{"the fixed distances", times(32, 5), isFull},
		{"256 of eight bits and 32 without", append(times(256, 8), times(32, 0)...), isFull},
		{"288 with codes", append(times(224, 8), times(64, 9)...), isFull},
		{"lone, the only symbol", []int{1}, isLone},
		{"lone, the first one", []int{1, 0, 0}, isLone},
		{"lone, the last one", []int{0, 0, 1}, isLone},
		{"lone, the last of 288", append(times(287, 0), 1), isLone},
		{"nil", nil, isEmpty},
		{"no lengths", []int{}, isEmpty},
		{"one without a code", []int{0}, isEmpty},
		{"288 without codes", times(288, 0), isEmpty},
	}
	for _, c := range cases {
		t.Run(c.name, func(t *testing.T) { wantKind(t, c.lengths, c.kind, api.OK) })
	}
}

func TestNoCode(t *testing.T) {
	cases := []struct {
		name    string
		lengths []int
	}{
		{"just one, of 2", []int{2}},
		{"just one, of 3, among zeros", []int{0, 3, 0}},
		{"just one, of 15", []int{15}},
		{"two that are as full as a lone one", []int{2, 2}},
		{"many that are as full as a lone one", append(rising(15)[1:], 15)},
		{"too full by one", append(rising(15), 15, 15)},
		{"too full by one, the first", append([]int{15}, append(rising(15), 15)...)},
		{"too full by a half", []int{1, 1, 1}},
		{"too full by many", times(288, 1)},
		{"twice as full", times(4, 1)},
		{"so full that 16 bits are full again", times(6, 1)},
		{"not full by one", rising(15)},
		{"not full by one, from behind", []int{15, 14, 13, 12, 11, 10, 9, 8, 7, 6, 5, 4, 3, 2, 1}},
		{"not full by a quarter", []int{1, 2}},
		{"not full by many", times(288, 15)},
		{"the fixed symbols without the last", fixed()[:287]},
		{"the fixed distances without the last two", times(30, 5)},
	}
	for _, c := range cases {
		t.Run(c.name, func(t *testing.T) { wantKind(t, c.lengths, 0, api.ErrCode) })
	}
}

func TestLengthsThatMayNotBe(t *testing.T) {
	cases := []struct {
		name    string
		lengths []int
	}{
		{"-1 alone", []int{-1}},
		{"-1 ahead of a full code", []int{-1, 1, 1}},
		{"-1 behind a full code", []int{1, 1, -1}},
		{"-1 and a lone code", []int{1, -1}},
		{"-1 and zeros", []int{0, 0, -1}},
		{"the least number", []int{1, 1, math.MinInt}},
		{"16 alone", []int{16}},
		{"16 behind a full code", []int{1, 1, 16}},
		{"16 twice, as if they filled a code", append(rising(15), 16, 16)},
		{"16 and a lone code", []int{16, 1}},
		{"the greatest number", []int{math.MaxInt, 1, 1}},
		{"2 to the power 32, and 1", []int{1<<32 + 1, 1}},
		{"256 and 1", []int{257, 1}},
		{"too full, then 16", []int{1, 1, 1, 16}},
		{"not full, then -1", []int{3, -1}},
		{"289 without codes", times(289, 0)},
		{"289, the first ones a full code", append([]int{1, 1}, times(287, 0)...)},
		{"289, the last one makes it full", append(append([]int{1}, times(287, 0)...), 1)},
		{"289, the last one a lone code", append(times(288, 0), 1)},
		{"289, too full", times(289, 1)},
		{"289, not full", times(289, 15)},
		{"289, one of them 16", append(times(288, 0), 16)},
		{"many", times(70000, 0)},
	}
	for _, c := range cases {
		t.Run(c.name, func(t *testing.T) { wantKind(t, c.lengths, 0, api.ErrArg) })
	}
}

func TestFifteenIsTheGreatestLength(t *testing.T) {
	for n := -3; n <= 20; n++ {
		kind, err := kindByDefinition([]int{n})
		wantKind(t, []int{n}, kind, err)
		for most := 1; most <= 15; most++ {
			l := append(rising(most), n)
			kind, err := kindByDefinition(l)
			wantKind(t, l, kind, err)
		}
	}
}

func TestCodes(t *testing.T) {
	cases := []struct {
		lengths, want []int
	}{
		{[]int{2, 1, 3, 3}, []int{2, 0, 6, 7}},
		{[]int{1, 1}, []int{0, 1}},
		{[]int{0, 1, 0, 1}, []int{0, 0, 0, 1}},
		{[]int{3, 3, 3, 3, 3, 2, 4, 4}, []int{2, 3, 4, 5, 6, 0, 14, 15}},
		{[]int{3, 3, 1, 2}, []int{6, 7, 0, 2}},
		// Here lengths between two others are those of no symbol.
		{[]int{1, 4, 4, 4, 4, 4, 4, 4, 4}, []int{0, 8, 9, 10, 11, 12, 13, 14, 15}},
		{append(rising(15), 15), []int{0, 2, 6, 14, 30, 62, 126, 254, 510, 1022, 2046, 4094, 8190, 16382, 32766, 32767}},
		{[]int{0, 1, 0}, []int{0, 0, 0}},
		{[]int{0, 0}, []int{0, 0}},
		{[]int{}, nil},
		{nil, nil},
	}
	for _, c := range cases {
		got, err := prefix.Codes(c.lengths)
		if !slices.Equal(got, c.want) || err != api.OK {
			t.Errorf("Codes(%v) = %v, %d; want %v", c.lengths, got, err, c.want)
		}
	}
}

func TestCodesOfTheFixedSymbols(t *testing.T) {
	got, err := prefix.Codes(fixed())
	if err != api.OK || len(got) != 288 {
		t.Fatalf("%d codes, error %d", len(got), err)
	}
	for symbol, want := range map[int]int{0: 0x30, 143: 0xbf, 144: 0x190, 255: 0x1ff, 256: 0, 279: 0x17, 280: 0xc0, 287: 0xc7} {
		if got[symbol] != want {
			t.Errorf("symbol %d: %#x, want %#x", symbol, got[symbol], want)
		}
	}
}

// TestAllShortRows asks of each row of up to five lengths, -1 up to 4, 15 and 16.
func TestAllShortRows(t *testing.T) {
	var row []int
	var ask func(left int)
	ask = func(left int) {
		kind, err := kindByDefinition(row)
		wantKind(t, row, kind, err)
		if left == 0 || t.Failed() {
			return
		}
		for _, n := range []int{-1, 0, 1, 2, 3, 4, 15, 16} {
			row = append(row, n)
			ask(left - 1)
			row = row[:len(row)-1]
		}
	}
	ask(5)
}

// TestOneLengthChanged takes codes and makes one of their lengths another one.
func TestOneLengthChanged(t *testing.T) {
	rnd := rand.New(rand.NewSource(1))
	for range 200 {
		l := anyFull(rnd, 2+rnd.Intn(60), rnd.Intn(10))
		wantKind(t, l, isFull, api.OK)
		at := rnd.Intn(len(l))
		for n := -1; n <= 16; n++ {
			changed := slices.Clone(l)
			changed[at] = n
			kind, err := kindByDefinition(changed)
			wantKind(t, changed, kind, err)
		}
	}
}

func TestAnswersAreTheCallers(t *testing.T) {
	lengths := []int{2, 1, 3, 3}
	first, _ := prefix.Codes(lengths)
	clear(first)
	lengths[0], lengths[1] = 1, 2
	second, _ := prefix.Codes([]int{2, 1, 3, 3})
	if !slices.Equal(second, []int{2, 0, 6, 7}) || !slices.Equal(first, []int{0, 0, 0, 0}) {
		t.Errorf("%v, %v", first, second)
	}
}
