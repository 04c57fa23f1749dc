package limit_test

import (
	"math"
	"slices"
	"testing"

	"montage/api"
	"montage/limit"
)

// wantSum holds Cost against a sum and an error.
func wantSum(t *testing.T, counts, lengths []int, sum int, err api.Errno) {
	t.Helper()
	c, l := slices.Clone(counts), slices.Clone(lengths)
	if n, e := limit.Cost(counts, lengths); n != sum || e != err {
		t.Errorf("Cost(%v, %v) = %d, %d; want %d, %d", counts, lengths, n, e, sum, err)
	}
	if !slices.Equal(counts, c) || !slices.Equal(lengths, l) {
		t.Errorf("Cost changes %v to %v, %v to %v", c, counts, l, lengths)
	}
}

func TestCost(t *testing.T) {
	cases := []struct {
		name            string
		counts, lengths []int
		sum             int
	}{
		{"the example", []int{5, 1, 1}, []int{1, 2, 2}, 9},
		{"nothing", nil, nil, 0},
		{"nothing, but not nil", []int{}, nil, 0},
		{"one that doesn't come", []int{0}, []int{0}, 0},
		{"one that doesn't come, with a length", []int{0}, []int{1000}, 0},
		{"one that comes, without a length", []int{greatest}, []int{0}, 0},
		{"one bit", []int{1}, []int{1}, 1},
		{"lengths that fit nothing", []int{3, 4, 5}, []int{1, 1, 1}, 12},
		{"lengths above 15", []int{3, 4, 5}, []int{16, 999, 1000}, 48 + 3996 + 5000},
		{"the greatest of one", []int{greatest}, []int{1000}, 1048576000},
		{"the greatest of all", times(288, greatest), times(288, 1000), 301989888000},
		{"the last one alone", append(times(287, 0), 7), append(times(287, 9), 6), 42},
	}
	for _, c := range cases {
		t.Run(c.name, func(t *testing.T) { wantSum(t, c.counts, c.lengths, c.sum, api.OK) })
	}
}

func TestCostOfWrongLengths(t *testing.T) {
	cases := []struct {
		name            string
		counts, lengths []int
	}{
		{"fewer", []int{1, 1}, []int{1}},
		{"none", []int{1}, nil},
		{"none of symbols that don't come", []int{0}, nil},
		{"more", []int{1}, []int{1, 2}},
		{"one more that is 0", []int{1}, []int{1, 0}},
		{"lengths of no counts", nil, []int{0}},
		{"289 lengths", times(288, 1), times(289, 1)},
		{"-1", []int{1}, []int{-1}},
		{"-1 of one that doesn't come", []int{0}, []int{-1}},
		{"1001", []int{1}, []int{1001}},
		{"1001 of one that doesn't come", []int{0}, []int{1001}},
		{"the least number", []int{1, 1}, []int{1, math.MinInt}},
		{"the greatest number", []int{1, 1}, []int{math.MaxInt, 1}},
		{"the last one", []int{5, 1, 1}, []int{1, 2, 1001}},
		{"fewer, and one wrong", []int{1, 1}, []int{-1}},
	}
	for _, c := range cases {
		t.Run(c.name, func(t *testing.T) { wantSum(t, c.counts, c.lengths, 0, api.ErrArg) })
	}
}

func TestCostOfWrongCounts(t *testing.T) {
	for _, counts := range wrongCounts() {
		wantSum(t, counts, times(len(counts), 1), 0, api.ErrArg)
		wantSum(t, counts, times(len(counts), 0), 0, api.ErrArg)
		wantSum(t, counts, times(len(counts), -1), 0, api.ErrArg)
		wantSum(t, counts, nil, 0, api.ErrArg)
	}
}

// What Free and Lengths answer may be handed to Cost, however long the codes are.
func TestCostOfAnswers(t *testing.T) {
	for _, counts := range [][]int{nil, {0, 3}, fibonacci(30), doubling(21), times(28, greatest)} {
		for _, most := range []int{free, 15} {
			lengths, _ := ask(counts, most)
			wantSum(t, counts, lengths, least(counts, most), api.OK)
		}
	}
}
