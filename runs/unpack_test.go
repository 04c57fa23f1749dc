package runs_test

import (
	"math"
	"math/rand"
	"slices"
	"testing"

	"montage/api"
	"montage/runs"
)

// widths are how many bits stand behind the symbols 16, 17, 18; leasts how often they repeat at least.
var (
	widths = map[int]int{16: 2, 17: 3, 18: 7}
	leasts = map[int]int{16: 3, 17: 3, 18: 11}
)

// unpacked says by the chapter's words what symbols say.
func unpacked(l []api.Run) ([]int, api.Errno) {
	row := []int{}
	for i, r := range l {
		if r.Symbol < 0 || r.Symbol > 18 || r.More < 0 || r.More >= 1<<widths[r.Symbol] {
			return nil, api.ErrArg
		}
		if r.Symbol == 16 && i == 0 {
			return nil, api.ErrForm
		}
		if r.Symbol < 16 {
			row = append(row, r.Symbol)
		}
		for range leasts[r.Symbol] + r.More {
			if r.Symbol == 16 {
				row = append(row, row[len(row)-1])
			} else {
				row = append(row, 0)
			}
		}
		if len(row) > mostNumbers {
			return nil, api.ErrLimit
		}
	}
	return row, api.OK
}

// symbols answers symbols with 0 behind each.
func symbols(l ...int) []api.Run {
	var row []api.Run
	for _, s := range l {
		row = append(row, api.Run{Symbol: s})
	}
	return row
}

// with answers one symbol with a number behind it.
func with(symbol, more int) []api.Run {
	return []api.Run{{Symbol: symbol, More: more}}
}

// zeros answers symbols that say so many zeros, one by one.
func zeros(n int) []api.Run {
	return make([]api.Run, n)
}

func checkUnpack(t *testing.T, l []api.Run, want []int) {
	t.Helper()
	if got, e := runs.Unpack(l); !slices.Equal(got, want) || e != api.OK {
		t.Errorf("Unpack(%+v) = %v, %d; want %v", l, got, e, want)
	}
}

func unpackRefused(t *testing.T, l []api.Run, want api.Errno) {
	t.Helper()
	if got, e := runs.Unpack(l); len(got) != 0 || e != want {
		t.Errorf("Unpack(%+v) = %v, %d; want error %d", l, got, e, want)
	}
}

func TestUnpackOrdinary(t *testing.T) {
	for _, c := range []struct {
		l    []api.Run
		want []int
	}{
		{with(18, 0), same(0, 11)}, // the chapter's example
		{nil, nil},
		{[]api.Run{}, nil},
		{symbols(1, 2, 3), []int{1, 2, 3}},
		{slices.Concat(symbols(3), with(16, 1), symbols(17)), []int{3, 3, 3, 3, 3, 0, 0, 0}},
		{slices.Concat(symbols(5), with(16, 3), with(16, 0)), same(5, 10)},
		{slices.Concat(symbols(15), with(17, 7), symbols(15)), slices.Concat([]int{15}, same(0, 10), []int{15})},
		{slices.Concat(symbols(4), with(18, 127), symbols(0, 2)), slices.Concat([]int{4}, same(0, 139), []int{2})},
	} {
		checkUnpack(t, c.l, c.want)
	}
}

func TestUnpackEachSymbol(t *testing.T) {
	for s := range 16 {
		checkUnpack(t, symbols(s), []int{s})
		checkUnpack(t, symbols(s, s), []int{s, s})
		checkUnpack(t, symbols(s, 16), same(s, 4))
	}
	checkUnpack(t, symbols(17), same(0, 3))
	checkUnpack(t, symbols(18), same(0, 11))
}

func TestUnpackEachNumberBehind(t *testing.T) {
	for more := range 4 {
		for s := range 16 {
			checkUnpack(t, slices.Concat(symbols(9, s), with(16, more)), slices.Concat([]int{9}, same(s, 4+more)))
		}
	}
	for more := range 8 {
		checkUnpack(t, with(17, more), same(0, 3+more))
		checkUnpack(t, slices.Concat(symbols(6), with(17, more)), slices.Concat([]int{6}, same(0, 3+more)))
	}
	for more := range 128 {
		checkUnpack(t, with(18, more), same(0, 11+more))
		checkUnpack(t, slices.Concat(symbols(6), with(18, more)), slices.Concat([]int{6}, same(0, 11+more)))
	}
}

func TestUnpackSymbolsThatAreNone(t *testing.T) {
	for _, bad := range []int{-1, 19, -16, -18, 20, 32, 255, 256, 272, 1 << 32, 1<<32 + 3, math.MinInt, math.MaxInt} {
		for _, more := range []int{0, 1, -1, math.MinInt, math.MaxInt} {
			unpackRefused(t, with(bad, more), api.ErrArg)
			unpackRefused(t, slices.Concat(symbols(1, 2, 18), with(bad, more)), api.ErrArg)
			unpackRefused(t, slices.Concat(with(bad, more), symbols(1)), api.ErrArg)
		}
	}
}

func TestUnpackNumbersBehindThatMayNotBe(t *testing.T) {
	for symbol, width := range widths {
		ahead := symbols(1)
		for _, more := range []int{0, 1<<width - 1} {
			if _, e := runs.Unpack(slices.Concat(ahead, with(symbol, more))); e != api.OK {
				t.Errorf("%d with %d is refused: %d", symbol, more, e)
			}
		}
		for _, more := range []int{1 << width, 1<<width + 1, -1, -2, -1 << width, 1 << 20, 1 << 32, math.MinInt, math.MaxInt - 3, math.MaxInt} {
			unpackRefused(t, slices.Concat(ahead, with(symbol, more)), api.ErrArg)
			unpackRefused(t, with(symbol, more), api.ErrArg)
		}
	}
	for symbol := range 16 {
		for _, more := range []int{1, 2, 3, 7, 127, 128, -1, math.MinInt, math.MaxInt} {
			unpackRefused(t, with(symbol, more), api.ErrArg)
			unpackRefused(t, slices.Concat(symbols(1), with(symbol, more)), api.ErrArg)
		}
	}
}

func TestUnpackAgainFirstOfAll(t *testing.T) {
	for more := range 4 {
		unpackRefused(t, with(16, more), api.ErrForm)
		unpackRefused(t, slices.Concat(with(16, more), symbols(1)), api.ErrForm)
		unpackRefused(t, slices.Concat(with(16, more), with(16, more)), api.ErrForm)
	}
}

func TestUnpackAgainBehindRepetitions(t *testing.T) {
	for more := range 4 {
		for _, few := range []int{0, 7} {
			checkUnpack(t, slices.Concat(with(17, few), with(16, more)), same(0, 6+few+more))
			checkUnpack(t, slices.Concat(symbols(5), with(17, few), with(16, more)), slices.Concat([]int{5}, same(0, 6+few+more)))
		}
		for _, many := range []int{0, 127} {
			checkUnpack(t, slices.Concat(with(18, many), with(16, more)), same(0, 14+many+more))
			checkUnpack(t, slices.Concat(symbols(5), with(18, many), with(16, more)), slices.Concat([]int{5}, same(0, 14+many+more)))
		}
		checkUnpack(t, slices.Concat(symbols(5), with(16, more), with(16, more)), same(5, 7+2*more))
	}
}

func TestUnpackAsManyNumbersAsMayBe(t *testing.T) {
	for symbol := range 19 {
		for _, more := range []int{0, 1<<widths[symbol] - 1} {
			times := leasts[symbol] + more
			if symbol < 16 {
				times = 1
			}
			ahead := mostNumbers - times
			l := slices.Concat(zeros(ahead), with(symbol, more))
			number := symbol
			if symbol >= 16 {
				number = 0
			}
			checkUnpack(t, l, slices.Concat(same(0, ahead), same(number, times)))
			// One number more, ahead of it or behind it.
			unpackRefused(t, slices.Concat(zeros(1), l), api.ErrLimit)
			unpackRefused(t, slices.Concat(l, zeros(1)), api.ErrLimit)
			unpackRefused(t, slices.Concat(l, symbols(16)), api.ErrLimit)
			unpackRefused(t, slices.Concat(l, symbols(17)), api.ErrLimit)
			unpackRefused(t, slices.Concat(l, symbols(18)), api.ErrLimit)
			// The row is full already.
			unpackRefused(t, slices.Concat(zeros(mostNumbers), with(symbol, more)), api.ErrLimit)
		}
	}
	unpackRefused(t, slices.Repeat(with(18, 127), 8), api.ErrLimit)
	unpackRefused(t, zeros(mostNumbers+1), api.ErrLimit)
	unpackRefused(t, zeros(100000), api.ErrLimit)
	checkUnpack(t, slices.Concat(slices.Repeat(with(18, 127), 7), with(18, 23)), same(0, mostNumbers))
	checkUnpack(t, slices.Concat(symbols(7), slices.Repeat(with(16, 3), 166), with(16, 0)), same(7, mostNumbers))
}

func TestUnpackFirstErrorOfASymbol(t *testing.T) {
	full := zeros(mostNumbers)
	// What may not be, and first of all.
	for _, more := range []int{-1, 4, math.MaxInt, math.MinInt} {
		unpackRefused(t, with(16, more), api.ErrArg)
	}
	// What may not be, and too much.
	for _, bad := range []api.Run{{Symbol: 19}, {Symbol: -1}, {Symbol: 3, More: 1}, {Symbol: 16, More: 4}, {Symbol: 17, More: 8}, {Symbol: 18, More: 128}, {Symbol: 18, More: -1}, {Symbol: 18, More: math.MaxInt}} {
		unpackRefused(t, append(slices.Clone(full), bad), api.ErrArg)
	}
}

func TestUnpackFirstSymbolThatIsWrong(t *testing.T) {
	bad, again, much := with(19, 0), with(16, 0), slices.Repeat(with(18, 127), 8)
	for _, c := range []struct {
		l []api.Run
		e api.Errno
	}{
		{slices.Concat(bad, again, much), api.ErrArg},
		{slices.Concat(bad, much), api.ErrArg},
		{slices.Concat(again, bad, much), api.ErrForm},
		{slices.Concat(again, much, bad), api.ErrForm},
		{slices.Concat(much, bad), api.ErrLimit},
		{slices.Concat(much, again, bad), api.ErrLimit},
		{slices.Concat(much[:7], bad, much), api.ErrArg},
		{slices.Concat(again, with(18, 128)), api.ErrForm},
		{slices.Concat(zeros(mostNumbers), symbols(0), bad), api.ErrLimit},
		{slices.Concat(zeros(mostNumbers), bad, symbols(0)), api.ErrArg},
	} {
		unpackRefused(t, c.l, c.e)
	}
}

func TestUnpackByTheWords(t *testing.T) {
	choice := rand.New(rand.NewSource(11))
	for range 20000 {
		var l []api.Run
		for range choice.Intn(30) {
			r := api.Run{Symbol: choice.Intn(19)}
			if choice.Intn(2) == 0 {
				r.Symbol = 16 + choice.Intn(3)
			}
			r.More = choice.Intn(1 << widths[r.Symbol])
			if choice.Intn(80) == 0 {
				r.Symbol += choice.Intn(5) - 2
			}
			if choice.Intn(80) == 0 {
				r.More += choice.Intn(5) - 2
			}
			l = append(l, r)
		}
		want, e := unpacked(l)
		got, gotE := runs.Unpack(l)
		if !slices.Equal(got, want) || gotE != e {
			t.Errorf("Unpack(%+v) = %v, %d; want %v, %d", l, got, gotE, want, e)
		}
	}
}

func TestUnpackLeavesSymbolsAsTheyAre(t *testing.T) {
	l := slices.Concat(symbols(3), with(16, 2), with(17, 5), with(18, 1))
	kept := slices.Clone(l)
	first, _ := runs.Unpack(l)
	want := slices.Concat(same(3, 6), same(0, 20))
	if !slices.Equal(l, kept) {
		t.Errorf("the symbols are now %+v", l)
	}
	l[0].Symbol = 9
	if !slices.Equal(first, want) {
		t.Errorf("the row is now %v", first)
	}
	for i := range first {
		first[i] = -1
	}
	checkUnpack(t, kept, want)
}
