package limit_test

import (
	"math/rand"
	"slices"
	"testing"

	"montage/api"
)

// everyRow calls do with each row of n numbers out of those given.
func everyRow(n int, numbers []int, do func(row []int)) {
	row := make([]int, n)
	var fill func(at int)
	fill = func(at int) {
		if at == n {
			do(row)
			return
		}
		for _, x := range numbers {
			row[at] = x
			fill(at + 1)
		}
	}
	fill(0)
}

// upTo answers the numbers from 0 up to n.
func upTo(n int) []int {
	var row []int
	for i := range n + 1 {
		row = append(row, i)
	}
	return row
}

// fullRows answers each row of n lengths from 1 up to n that fits n symbols that come.
func fullRows(n int) [][]int {
	var rows [][]int
	everyRow(n, upTo(max(n, 1))[1:], func(row []int) {
		if fit(times(n, 1), row, max(n, 1)) {
			rows = append(rows, slices.Clone(row))
		}
	})
	return rows
}

// leastOfAll looks at each row of lengths there is; false if none is short enough.
func leastOfAll(counts []int, rows [][]int, most int) (int, bool) {
	var present []int
	for _, n := range counts {
		if n != 0 {
			present = append(present, n)
		}
	}
	best, found := 0, false
	for _, row := range rows {
		if len(row) > 0 && slices.Max(row) > most {
			continue
		}
		if cost := costByDefinition(present, row); !found || cost < best {
			best, found = cost, true
		}
	}
	return best, found
}

func TestSmallCountsAgainstAllLengths(t *testing.T) {
	const symbols = 6
	var rows [symbols + 1][][]int
	for n := range rows {
		rows[n] = fullRows(n)
	}
	numbers := [symbols + 1][]int{nil, upTo(9), upTo(9), upTo(7), {0, 1, 2, 3, 4, 6, 9}, {0, 1, 2, 3, 5}, {1, 2, 4, 7}}
	for n := range numbers {
		everyRow(n, numbers[n], func(counts []int) {
			for _, most := range []int{1, 2, 3, 4, 5, 15, free} {
				best, found := leastOfAll(counts, rows[come(counts)], most)
				if found {
					wantCost(t, counts, most, best)
				} else if l, err := ask(counts, most); len(l) != 0 || err != api.ErrArg {
					t.Fatalf("of %v with most %d: %v, %d; want no lengths, %d", counts, most, l, err, api.ErrArg)
				}
			}
		})
	}
}

// mixedCounts answers up to n counts, from flat to steep, with zeros among them.
func mixedCounts(r *rand.Rand, n int) []int {
	counts := make([]int, r.Intn(n+1))
	steep := r.Intn(20)
	for i := range counts {
		counts[i] = min(greatest, (1+r.Intn(9))<<r.Intn(steep+1))
		if r.Intn(4) == 0 {
			counts[i] = 0
		}
	}
	return counts
}

func TestMixedCountsAgainstTheLeast(t *testing.T) {
	r := rand.New(rand.NewSource(6))
	for range 250 {
		counts := mixedCounts(r, 40)
		wantCost(t, counts, free, least(counts, free))
		for most := 1; most <= 15; most++ {
			if come(counts) <= 1<<most {
				wantCost(t, counts, most, least(counts, most))
			}
		}
	}
}

func TestManyCountsAgainstTheLeast(t *testing.T) {
	r := rand.New(rand.NewSource(66))
	for _, n := range []int{100, 128, 129} {
		counts := make([]int, n)
		for i := range counts {
			counts[i] = 1 << r.Intn(21)
		}
		for _, most := range []int{8, 9, 15, free} {
			wantCost(t, counts, most, least(counts, most))
		}
	}
}

// A greater limit costs no more, and one that is great enough what no limit costs.
func TestGreaterLimits(t *testing.T) {
	r := rand.New(rand.NewSource(666))
	rows := [][]int{nil, {0}, {7}, fibonacci(13), fibonacci(16), fibonacci(17), fibonacci(30), doubling(21), times(288, 1), append(times(287, greatest), 1)}
	for range 300 {
		rows = append(rows, mixedCounts(r, 288))
	}
	for _, counts := range rows {
		unlimited := wantFit(t, counts, free)
		lengths, _ := ask(counts, free)
		longest := slices.Max(append(lengths, 0))
		ahead := never
		for most := 1; most <= 15; most++ {
			if come(counts) > 1<<most {
				continue
			}
			cost := wantFit(t, counts, most)
			if cost > ahead || cost < unlimited {
				t.Fatalf("of %v with most %d: cost %d; %d with one less, %d with none", counts, most, cost, ahead, unlimited)
			}
			if most >= longest && cost != unlimited {
				t.Fatalf("of %v with most %d: cost %d; want %d as without a limit", counts, most, cost, unlimited)
			}
			ahead = cost
		}
	}
}
