package runs_test

import (
	"math"
	"math/rand"
	"slices"
	"testing"

	"montage/api"
	"montage/runs"
)

// noSymbols are numbers that are none, those beside the symbols first.
var noSymbols = []int{-1, 19, -2, 20, -16, -17, -18, 32, 256, 256 + 16, 1<<32 + 16, 1<<32 + 17, 1<<32 + 18, math.MinInt, math.MinInt + 16, math.MaxInt}

func checkCounts(t *testing.T, l []api.Run, want [19]int) {
	t.Helper()
	if got := runs.Counts(l); got != want {
		t.Errorf("Counts(%+v) = %v, want %v", l, got, want)
	}
}

func TestBitsOfEachSymbol(t *testing.T) {
	for symbol := range 19 {
		want := map[int]int{16: 2, 17: 3, 18: 7}[symbol]
		if got := runs.Bits(symbol); got != want {
			t.Errorf("Bits(%d) = %d, want %d", symbol, got, want)
		}
	}
}

func TestBitsOfWhatIsNoSymbol(t *testing.T) {
	for _, symbol := range noSymbols {
		if got := runs.Bits(symbol); got != 0 {
			t.Errorf("Bits(%d) = %d", symbol, got)
		}
	}
}

func TestCountsOfNothing(t *testing.T) {
	checkCounts(t, nil, [19]int{})
	checkCounts(t, []api.Run{}, [19]int{})
}

func TestCountsOfEachSymbol(t *testing.T) {
	for symbol := range 19 {
		for _, times := range []int{1, 2, 7, 5000} {
			var want [19]int
			want[symbol] = times
			checkCounts(t, slices.Repeat(symbols(symbol), times), want)
		}
	}
}

func TestCountsOfSymbolsTogether(t *testing.T) {
	var all []api.Run
	var want [19]int
	for symbol := range 19 {
		// Each comes another number of times.
		all = append(all, slices.Repeat(symbols(symbol), symbol+1)...)
		want[symbol] = symbol + 1
	}
	checkCounts(t, all, want)
	slices.Reverse(all)
	checkCounts(t, all, want)
}

func TestCountsHangOnSymbolsAlone(t *testing.T) {
	for symbol := range 19 {
		var want [19]int
		want[symbol] = 1
		for _, more := range []int{0, 1, 127, 128, -1, math.MinInt, math.MaxInt} {
			checkCounts(t, with(symbol, more), want)
		}
	}
}

func TestCountsLeaveOutWhatIsNoSymbol(t *testing.T) {
	for _, bad := range noSymbols {
		checkCounts(t, symbols(bad), [19]int{})
		want := [19]int{0: 1, 18: 2}
		checkCounts(t, symbols(bad, 0, bad, 18, 18, bad), want)
	}
}

func TestCountsByTheWords(t *testing.T) {
	choice := rand.New(rand.NewSource(12))
	for range 2000 {
		var l []api.Run
		for range choice.Intn(60) {
			l = append(l, api.Run{Symbol: choice.Intn(23) - 2, More: choice.Intn(130) - 1})
		}
		var want [19]int
		for symbol := range want {
			for _, r := range l {
				if r.Symbol == symbol {
					want[symbol]++
				}
			}
		}
		kept := slices.Clone(l)
		checkCounts(t, l, want)
		if !slices.Equal(l, kept) {
			t.Errorf("the symbols are now %+v", l)
		}
	}
}

func TestCountsOfWhatIsPacked(t *testing.T) {
	row := slices.Concat(same(0, 11), same(4, 4), same(0, 3), []int{15})
	checkCounts(t, packed(t, row), [19]int{4: 1, 15: 1, 16: 1, 17: 1, 18: 1})
}
