package limit_test

import (
	"math"
	"slices"
	"testing"

	"montage/api"
	"montage/limit"
)

func TestExample(t *testing.T) {
	for _, most := range []int{free, 15, 2} {
		lengths, err := ask([]int{5, 1, 1}, most)
		if !slices.Equal(lengths, []int{1, 2, 2}) || err != api.OK {
			t.Errorf("with most %d: %v, %d; want [1 2 2], OK", most, lengths, err)
		}
	}
}

// Lengths of which no others cost as little.
func TestOnlyLengths(t *testing.T) {
	cases := []struct {
		name          string
		counts, wants []int
		most          int
	}{
		{"nil", nil, nil, 1},
		{"no counts", []int{}, nil, 15},
		{"one that doesn't come", []int{0}, []int{0}, 1},
		{"288 that don't come", times(288, 0), times(288, 0), 15},
		{"one that comes once", []int{1}, []int{1}, 1},
		{"one that comes as often as may be", []int{greatest}, []int{1}, 15},
		{"one among others", []int{0, 0, 9, 0}, []int{0, 0, 1, 0}, 1},
		{"the last of 288", append(times(287, 0), 3), append(times(287, 0), 1), 1},
		{"two", []int{1, 1}, []int{1, 1}, 1},
		{"two, with room", []int{1, greatest}, []int{1, 1}, 15},
		{"two among others", []int{0, 8, 0, 0, 1, 0}, []int{0, 1, 0, 0, 1, 0}, 1},
		{"four the same", times(4, 7), times(4, 2), 2},
		{"four the same, with room", times(4, 7), times(4, 2), 15},
		{"256 the same", times(256, 1), times(256, 8), 8},
		{"256 the same, with room", times(256, greatest), times(256, 8), 15},
		{"steep, but no room", []int{1, 2, 4, 1000}, []int{2, 2, 2, 2}, 2},
		{"steep, and room", []int{1, 2, 4, 1000}, []int{3, 3, 2, 1}, 3},
		{"rising", []int{1, 1, 2, 4, 8}, []int{4, 4, 3, 2, 1}, 4},
		{"falling", []int{8, 4, 2, 1, 1}, []int{1, 2, 3, 4, 4}, 15},
		{"with zeros", []int{0, 8, 0, 1, 0, 0, 4, 2, 1, 0}, []int{0, 1, 0, 4, 0, 0, 2, 3, 4, 0}, 15},
	}
	for _, c := range cases {
		t.Run(c.name, func(t *testing.T) {
			lengths, err := limit.Lengths(c.counts, c.most)
			if !slices.Equal(lengths, c.wants) || err != api.OK {
				t.Errorf("Lengths(%v, %d) = %v, %d; want %v, OK", c.counts, c.most, lengths, err, c.wants)
			}
		})
	}
}

func TestOnlyFreeLengths(t *testing.T) {
	longest := slices.Concat([]int{20, 20}, turned(upTo(19)[1:])) // of counts that double
	cases := []struct {
		name          string
		counts, wants []int
	}{
		{"nil", nil, nil},
		{"288 that don't come", times(288, 0), times(288, 0)},
		{"one", []int{0, greatest, 0}, []int{0, 1, 0}},
		{"two", []int{3, 0, 1}, []int{1, 0, 1}},
		{"256 the same", times(256, 3), times(256, 8)},
		{"doubling", doubling(21), longest},
		{"halving", turned(doubling(21)), turned(longest)},
	}
	for _, c := range cases {
		t.Run(c.name, func(t *testing.T) {
			lengths, err := limit.Free(c.counts)
			if !slices.Equal(lengths, c.wants) || err != api.OK {
				t.Errorf("Free(%v) = %v, %d; want %v, OK", c.counts, lengths, err, c.wants)
			}
		})
	}
}

// The greatest counts that make codes as long as may be: a code of 30 symbols has 29 bits.
func TestFreeAboveMaxCode(t *testing.T) {
	lengths, err := limit.Free(fibonacci(30))
	if err != api.OK || slices.Max(lengths) != 29 {
		t.Errorf("Free(%v) = %v, %d; want lengths up to 29", fibonacci(30), lengths, err)
	}
	if lengths, _ = limit.Lengths(fibonacci(30), 15); slices.Max(lengths) != 15 {
		t.Errorf("Lengths(%v, 15) = %v; want lengths up to 15", fibonacci(30), lengths)
	}
}

// Orders of the counts, and zeros among them, cost nothing.
func TestOrders(t *testing.T) {
	rows := [][]int{{1, 1, 2, 4, 8}, doubling(15), doubling(16), doubling(21), fibonacci(30), times(27, 5), upTo(90)[1:]}
	for _, counts := range rows {
		for _, most := range []int{free, 15, 7, 5} {
			if come(counts) > 1<<min(most, 15) {
				continue
			}
			cost := least(counts, most)
			for _, other := range [][]int{counts, turned(counts), shuffled(counts, 1), amongZeros(counts), amongZeros(shuffled(counts, 2))} {
				wantCost(t, other, most, cost)
			}
		}
	}
}

// Just as many symbols as there is room for leave one way: most bits for each.
func TestNoRoomToSpare(t *testing.T) {
	for most := 1; most <= 8; most++ {
		counts := make([]int, 1<<most)
		for i := range counts {
			counts[i] = 1 + i*i*i%1001
		}
		for _, counts := range [][]int{counts, append(slices.Clone(counts), times(288-len(counts), 0)...)} {
			lengths, err := limit.Lengths(counts, most)
			for symbol, n := range lengths {
				if (counts[symbol] == 0 && n != 0) || (counts[symbol] != 0 && n != most) {
					t.Errorf("Lengths(%v, %d) = %v", counts, most, lengths)
					break
				}
			}
			if err != api.OK || len(lengths) != len(counts) {
				t.Errorf("Lengths(%v, %d) = %v, %d", counts, most, lengths, err)
			}
		}
		wantNoLengths(t, append(slices.Clone(counts), 1), most)
		wantNoLengths(t, append([]int{1, 0, 0}, counts...), most)
		wantFit(t, append(slices.Clone(counts), 1), most+1)
		wantFit(t, append(slices.Clone(counts), 0), most)
	}
	wantFit(t, times(288, 1), 9)
	wantNoLengths(t, times(288, 1), 8)
}

// wantNoLengths holds what is asked for against ErrArg and nothing beside it.
func wantNoLengths(t *testing.T, counts []int, most int) {
	t.Helper()
	before := slices.Clone(counts)
	if lengths, err := ask(counts, most); len(lengths) != 0 || err != api.ErrArg {
		t.Errorf("of %v with most %d: %v, %d; want none, ErrArg", counts, most, lengths, err)
	}
	if !slices.Equal(counts, before) {
		t.Errorf("counts %v are changed to %v", before, counts)
	}
}

// wrongCounts answers counts that may not be.
func wrongCounts() [][]int {
	return [][]int{
		{-1},
		{greatest + 1},
		{math.MinInt},
		{math.MaxInt},
		{0, -1},
		{1, 2, -1, 3},
		{1, 2, 3, greatest + 1},
		{greatest + 1, 1},
		append(times(287, 1), -1),
		append(times(287, 0), greatest+1),
		times(289, 0),
		times(289, 1),
		times(289, -1),
		append(times(288, 1), 0),
		times(1000, greatest),
	}
}

func TestWrongCounts(t *testing.T) {
	for _, counts := range wrongCounts() {
		wantNoLengths(t, counts, free)
		for _, most := range []int{-1, 0, 1, 8, 15, 16} {
			wantNoLengths(t, counts, most)
		}
	}
}

func TestCountsThatJustMayBe(t *testing.T) {
	cases := []struct {
		name   string
		counts []int
		free   int
		nine   int // what they cost at most 9
	}{
		{"none that comes", []int{0}, 0, 0},
		{"the greatest", []int{greatest}, greatest, greatest},
		{"the greatest and one that doesn't come", []int{0, greatest}, greatest, greatest},
		{"the greatest and the least that comes", []int{greatest, 1}, greatest + 1, greatest + 1},
		{"288 that don't come", times(288, 0), 0, 0},
		// 224 of eight bits, 64 of nine.
		{"288 that come once", times(288, 1), 2368, 2368},
		{"288 of the greatest", times(288, greatest), 2368 * greatest, 2368 * greatest},
		// One bit for the greatest, and 225 of nine, 62 of ten; or two bits, and 97 of
		// eight, 190 of nine.
		{"the greatest behind 287 that come once", append(times(287, 1), greatest), greatest + 2645, 2*greatest + 2486},
	}
	for _, c := range cases {
		t.Run(c.name, func(t *testing.T) {
			wantCost(t, c.counts, free, c.free)
			wantCost(t, c.counts, 15, c.free)
			wantCost(t, c.counts, 9, c.nine)
		})
	}
}

func TestWrongMost(t *testing.T) {
	for _, counts := range [][]int{nil, {}, {0}, {1}, {0, 5}, {1, 1}, {5, 1, 1}, times(288, 0), times(288, 1), {-1}} {
		for _, most := range []int{math.MinInt, -15, -1, 0, 16, 17, 63, 64, math.MaxInt} {
			wantNoLengths(t, counts, most)
		}
	}
	wantNoLengths(t, []int{1, 1, 1}, 1)
	wantNoLengths(t, []int{0, 1, 0, 1, 0, 1}, 1)
	wantFit(t, []int{0, 1, 0, 1, 0, 0}, 1)
}

// What is answered is the caller's own, and the same again.
func TestAnswersAreNew(t *testing.T) {
	counts := []int{5, 0, 1, 1, 9}
	for _, most := range []int{free, 15, 3, 2} {
		first, _ := ask(counts, most)
		kept := slices.Clone(first)
		for i := range first {
			first[i] = 77
		}
		second, _ := ask(counts, most)
		if !slices.Equal(second, kept) || !slices.Equal(counts, []int{5, 0, 1, 1, 9}) {
			t.Errorf("with most %d: %v, then %v, of %v", most, kept, second, counts)
		}
	}
}
