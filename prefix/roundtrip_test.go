package prefix_test

import (
	"math/rand"
	"slices"
	"testing"

	"montage/api"
	"montage/bits"
)

// grown splits symbols of a full code, one after the other, till there are so many,
// and mixes them with zeros.
func grown(rnd *rand.Rand, l []int, symbols, zeros int) []int {
	for len(l) < symbols {
		if at := rnd.Intn(len(l)); l[at] < api.MaxCode {
			l[at]++
			l = append(l, l[at])
		}
	}
	l = append(l, times(zeros, 0)...)
	rnd.Shuffle(len(l), func(i, j int) { l[i], l[j] = l[j], l[i] })
	return l
}

// anyFull answers the lengths of a full code of so many symbols, and zeros.
func anyFull(rnd *rand.Rand, symbols, zeros int) []int {
	return grown(rnd, []int{1, 1}, symbols, zeros)
}

// deepFull is as anyFull, but with codes of fifteen bits in any case.
func deepFull(rnd *rand.Rand, zeros int) []int {
	return grown(rnd, append(rising(api.MaxCode), api.MaxCode), 16+rnd.Intn(40), zeros)
}

// goRound writes symbols behind some bits by one table and reads them by another one of the same lengths.
func goRound(t *testing.T, lengths, symbols []int, skip int) {
	t.Helper()
	w := bits.NewWriter()
	w.Put(1<<skip-1, skip)
	writes := newTable(t, lengths)
	var behind []int
	for _, s := range symbols {
		wantWrite(t, writes, w, s, api.OK)
		behind = append(behind, w.Len())
	}
	reads := newTable(t, slices.Clone(lengths))
	r := bits.NewReader(w.Text())
	r.Bits(skip)
	at := skip
	for i, s := range symbols {
		wantSymbol(t, reads, r, s, behind[i])
		if at += lengths[s]; at != behind[i] {
			t.Errorf("symbol %d of %d bits ends at %d, not %d", s, lengths[s], behind[i], at)
		}
	}
	if t.Failed() {
		t.Fatalf("lengths %v, symbols %v, behind %d bits", lengths, symbols, skip)
	}
}

// withCodes answers the symbols that can be written.
func withCodes(lengths []int) []int {
	var l []int
	for symbol, n := range lengths {
		if n > 0 {
			l = append(l, symbol)
		}
	}
	return l
}

// several picks n of the symbols, as often as it comes.
func several(rnd *rand.Rand, symbols []int, n int) []int {
	var l []int
	for range n {
		l = append(l, symbols[rnd.Intn(len(symbols))])
	}
	return l
}

func TestWrittenIsReadAgain(t *testing.T) {
	codes := [][]int{
		{2, 1, 3, 3}, {1, 1}, {1}, {0, 0, 1}, append(times(287, 0), 1), {1, 4, 4, 4, 4, 4, 4, 4, 4},
		append(rising(15), 15), fixed(), times(32, 5), append(times(224, 8), times(64, 9)...),
		append(times(256, 8), times(32, 0)...),
	}
	rnd := rand.New(rand.NewSource(5))
	for _, lengths := range codes {
		all := withCodes(lengths)
		for skip := range 8 {
			goRound(t, lengths, all, skip)
			goRound(t, lengths, several(rnd, all, 200), skip)
		}
	}
}

func TestWrittenIsReadAgainByAnyCode(t *testing.T) {
	for seed := range int64(400) {
		rnd := rand.New(rand.NewSource(seed))
		symbols := 2 + rnd.Intn(287)
		lengths := anyFull(rnd, symbols, rnd.Intn(api.MaxSymbols-symbols+1))
		if seed%2 == 1 {
			lengths = deepFull(rnd, rnd.Intn(200))
		}
		goRound(t, lengths, several(rnd, withCodes(lengths), 300), rnd.Intn(9))
	}
}

// TestWrittenIsReadAgainByShortCodes takes each row of up to six lengths, 0 up to 5, that makes a code.
func TestWrittenIsReadAgainByShortCodes(t *testing.T) {
	rnd := rand.New(rand.NewSource(6))
	codes := 0
	var row []int
	var ask func(left int)
	ask = func(left int) {
		if kind, err := kindByDefinition(row); err == api.OK && kind != isEmpty {
			codes++
			all := withCodes(row)
			goRound(t, row, append(all, several(rnd, all, 8)...), len(row))
		}
		if left == 0 {
			return
		}
		for n := range 6 {
			row = append(row, n)
			ask(left - 1)
			row = row[:len(row)-1]
		}
	}
	ask(6)
	if codes < 1000 {
		t.Errorf("only %d codes", codes)
	}
}

// Two codes may stand one behind the other in the same bits.
func TestTwoTablesInTurn(t *testing.T) {
	rnd := rand.New(rand.NewSource(7))
	a, b := fixed(), deepFull(rnd, 3)
	x, y := newTable(t, a), newTable(t, b)
	ours, theirs := several(rnd, withCodes(a), 500), several(rnd, withCodes(b), 500)
	w := bits.NewWriter()
	var behind []int
	for i := range ours {
		wantWrite(t, x, w, ours[i], api.OK)
		behind = append(behind, w.Len())
		wantWrite(t, y, w, theirs[i], api.OK)
		behind = append(behind, w.Len())
	}
	r := bits.NewReader(w.Text())
	for i := range ours {
		wantSymbol(t, x, r, ours[i], behind[2*i])
		wantSymbol(t, y, r, theirs[i], behind[2*i+1])
	}
}
