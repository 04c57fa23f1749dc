package limit_test

import (
	"math/big"
	"math/rand"
	"slices"
	"testing"

	"montage/api"
	"montage/limit"
)

const (
	greatest = 1 << 20 // count that may be
	free     = 1000    // as a limit: none
)

// times answers n counts that are all the same.
func times(n, count int) []int {
	return slices.Repeat([]int{count}, n)
}

// doubling answers n counts from 1 on, each one twice the one ahead.
func doubling(n int) []int {
	counts := make([]int, n)
	for i := range counts {
		counts[i] = 1 << i
	}
	return counts
}

// fibonacci answers n counts, each one the sum of the two ahead: codes of them are as
// long as may be.
func fibonacci(n int) []int {
	counts := []int{1, 1}
	for len(counts) < n {
		counts = append(counts, counts[len(counts)-1]+counts[len(counts)-2])
	}
	return counts[:n]
}

// turned answers the same counts from behind.
func turned(counts []int) []int {
	counts = slices.Clone(counts)
	slices.Reverse(counts)
	return counts
}

// amongZeros answers counts with zeros ahead of, between and behind them.
func amongZeros(counts []int) []int {
	mixed := []int{0}
	for i, n := range counts {
		mixed = append(mixed, n)
		mixed = append(mixed, times(i%3, 0)...)
	}
	return append(mixed, 0)
}

// shuffled answers the same counts in another order.
func shuffled(counts []int, seed int64) []int {
	counts = slices.Clone(counts)
	rand.New(rand.NewSource(seed)).Shuffle(len(counts), func(i, j int) { counts[i], counts[j] = counts[j], counts[i] })
	return counts
}

// come answers how many symbols come.
func come(counts []int) int {
	n := 0
	for _, c := range counts {
		if c != 0 {
			n++
		}
	}
	return n
}

// fit tells whether lengths fit counts and none is above most, as the chapter's words do it.
func fit(counts, lengths []int, most int) bool {
	if len(lengths) != len(counts) {
		return false
	}
	filled := new(big.Rat)
	for symbol, n := range lengths {
		if (n == 0) != (counts[symbol] == 0) || n < 0 || n > most {
			return false
		}
		if n != 0 {
			filled.Add(filled, new(big.Rat).SetFrac(big.NewInt(1), new(big.Int).Lsh(big.NewInt(1), uint(n))))
		}
	}
	switch come(counts) {
	case 0:
		return true
	case 1:
		return filled.Cmp(big.NewRat(1, 2)) == 0
	}
	return filled.Cmp(big.NewRat(1, 1)) == 0
}

// costByDefinition adds up what lengths cost.
func costByDefinition(counts, lengths []int) int {
	sum := 0
	for symbol := range counts {
		sum += counts[symbol] * lengths[symbol]
	}
	return sum
}

// wantFit asks for lengths by Free (with the limit free) or by Lengths, holds them against
// what fits, and answers what they cost.
func wantFit(t *testing.T, counts []int, most int) int {
	t.Helper()
	before := slices.Clone(counts)
	lengths, err := ask(counts, most)
	if err != api.OK {
		t.Fatalf("of %v with most %d: the error %d", counts, most, err)
	}
	if !fit(counts, lengths, most) {
		t.Fatalf("of %v with most %d: %v don't fit", counts, most, lengths)
	}
	if !slices.Equal(counts, before) {
		t.Fatalf("counts %v are changed to %v", before, counts)
	}
	return costByDefinition(counts, lengths)
}

// ask calls Free with the limit free, or else Lengths.
func ask(counts []int, most int) ([]int, api.Errno) {
	if most == free {
		return limit.Free(counts)
	}
	return limit.Lengths(counts, most)
}

// wantCost holds what lengths of counts cost against a number.
func wantCost(t *testing.T, counts []int, most, cost int) {
	t.Helper()
	if n := wantFit(t, counts, most); n != cost {
		t.Errorf("of %v with most %d: cost %d; want %d", counts, most, n, cost)
	}
}

// least works out what lengths cost at least that fit counts, none above most: depth by
// depth, by how many codes may still come of a depth and how many symbols have codes
// already, those that come more often first.
func least(counts []int, most int) int {
	var sorted []int
	for _, n := range counts {
		if n != 0 {
			sorted = append(sorted, n)
		}
	}
	if len(sorted) < 2 {
		return costByDefinition(sorted, times(len(sorted), 1))
	}
	slices.Sort(sorted)
	slices.Reverse(sorted)
	rest := make([]int, len(sorted)+1) // of so many symbols on, the counts added
	for i := len(sorted) - 1; i >= 0; i-- {
		rest[i] = rest[i+1] + sorted[i]
	}
	l := &search{rest: rest, known: map[state]int{}}
	return l.from(state{left: min(most, len(sorted)), open: 1})
}

// state is so many depths that are left, so many bits' rows that no code is yet, so many
// symbols that have codes.
type state struct {
	left, open, done int
}

type search struct {
	rest  []int
	known map[state]int
}

const never = 1 << 60

// from answers what the symbols that have no codes yet cost below this depth.
func (l *search) from(s state) int {
	todo := len(l.rest) - 1 - s.done
	switch {
	case todo == 0 && s.open == 0:
		return 0
	case s.left == 0 || s.open == 0 || s.open > todo:
		return never
	}
	if n, ok := l.known[s]; ok {
		return n
	}
	best := never
	open := 2 * s.open
	for leaves := 0; leaves <= min(open, todo); leaves++ {
		best = min(best, l.from(state{s.left - 1, open - leaves, s.done + leaves}))
	}
	best = min(never, best+l.rest[s.done])
	l.known[s] = best
	return best
}
