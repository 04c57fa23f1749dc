package runs_test

import (
	"math"
	"math/rand"
	"slices"
	"testing"

	"montage/api"
	"montage/runs"
)

const mostNumbers = 1000

// edgeCounts answers how often a number may stand in a row: around the edges of symbols, and around their multiples.
func edgeCounts() []int {
	var l []int
	for _, edge := range []int{0, 1, 2, 3, 4, 6, 7, 10, 11, 138, 139} {
		for times := 1; times <= 8; times++ {
			for n := edge*times - 2; n <= edge*times+2; n++ {
				if n >= 0 && n <= mostNumbers {
					l = append(l, n)
				}
			}
		}
	}
	l = append(l, 997, 998, 999, 1000)
	slices.Sort(l)
	return slices.Compact(l)
}

// same answers a row of one number.
func same(number, times int) []int {
	return slices.Repeat([]int{number}, times)
}

// packed packs a row, and checks what holds of every row that may be.
func packed(t *testing.T, row []int) []api.Run {
	t.Helper()
	p, e := runs.Pack(row)
	if e != api.OK {
		t.Fatalf("Pack(%v) = %+v, %d", row, p, e)
	}
	if len(p) > len(row) {
		t.Errorf("Pack(%v) has %d symbols, the row %d numbers", row, len(p), len(row))
	}
	// Held against the chapter's words, too: a fault of Unpack could hide one of Pack.
	if got, e := unpacked(p); !slices.Equal(got, row) || e != api.OK {
		t.Errorf("Pack(%v) = %+v, which says %v, %d", row, p, got, e)
	}
	if got, e := runs.Unpack(p); !slices.Equal(got, row) || e != api.OK {
		t.Errorf("Unpack(Pack(%v)) = %v, %d", row, got, e)
	}
	return p
}

func packRefused(t *testing.T, row []int, want api.Errno) {
	t.Helper()
	if p, e := runs.Pack(row); len(p) != 0 || e != want {
		t.Errorf("Pack of %d numbers = %+v, %d; want error %d", len(row), p, e, want)
	}
}

func TestPackTheExample(t *testing.T) {
	if p := packed(t, same(0, 11)); !slices.Equal(p, []api.Run{{Symbol: 18}}) {
		t.Errorf("eleven zeros are %+v", p)
	}
}

func TestPackOfNothing(t *testing.T) {
	for _, row := range [][]int{nil, {}} {
		if p := packed(t, row); len(p) != 0 {
			t.Errorf("%+v", p)
		}
	}
}

func TestPackEachNumber(t *testing.T) {
	for n := range 16 {
		if p := packed(t, []int{n}); !slices.Equal(p, []api.Run{{Symbol: n}}) {
			t.Errorf("Pack of %d alone = %+v", n, p)
		}
		for other := range 16 {
			packed(t, []int{n, other})
			packed(t, []int{n, other, n})
		}
	}
}

func TestPackRowsOfOneNumber(t *testing.T) {
	for _, n := range edgeCounts() {
		for number := range 16 {
			most := 3 + n/3
			if number == 0 {
				most = 3 + n/138
			}
			if p := packed(t, same(number, n)); len(p) > most {
				t.Errorf("%d times %d has %d symbols, more than %d", n, number, len(p), most)
			}
		}
	}
}

func TestPackEveryCountOfOneNumber(t *testing.T) {
	for n := range mostNumbers + 1 {
		if p := packed(t, same(0, n)); len(p) > 3+n/138 {
			t.Errorf("%d zeros have %d symbols", n, len(p))
		}
		for _, number := range []int{1, 8, 15} {
			if p := packed(t, same(number, n)); len(p) > 3+n/3 {
				t.Errorf("%d times %d has %d symbols", n, number, len(p))
			}
		}
	}
}

func TestPackZerosBesideOtherNumbers(t *testing.T) {
	for _, n := range edgeCounts() {
		if n > mostNumbers-8 {
			continue
		}
		for _, other := range []int{1, 7, 15} {
			zeros := same(0, n)
			for _, row := range [][]int{
				slices.Concat([]int{other}, zeros),
				slices.Concat(zeros, []int{other}),
				slices.Concat([]int{other}, zeros, []int{other}),
				slices.Concat(same(other, 4), zeros, same(other, 4)),
				slices.Concat(same(other, 4), zeros, same(16-other, 4)),
			} {
				packed(t, row)
			}
		}
	}
}

func TestPackOneNumberBehindAnother(t *testing.T) {
	for first := range 12 {
		for second := range 12 {
			packed(t, slices.Concat(same(3, first), same(4, second)))
			packed(t, slices.Concat(same(3, first), same(0, second), same(3, first)))
			packed(t, slices.Concat(same(0, first), same(3, second), same(0, first)))
		}
	}
}

func TestPackAllShortRows(t *testing.T) {
	// Each row of three numbers, of up to nine places, with 0 and 15 among them.
	numbers := []int{0, 1, 15}
	for n, rows := 0, 1; n <= 9; n, rows = n+1, rows*3 {
		for code := range rows {
			row := make([]int, n)
			for i := range row {
				row[i] = numbers[code%3]
				code /= 3
			}
			packed(t, row)
		}
	}
}

func TestPackRowsByChance(t *testing.T) {
	choice := rand.New(rand.NewSource(10))
	for range 3000 {
		length := choice.Intn(mostNumbers + 1)
		var row []int
		for len(row) < length {
			number := choice.Intn(16)
			if choice.Intn(3) == 0 {
				number = 0
			}
			times := 1 + choice.Intn(1+choice.Intn(1+choice.Intn(300)))
			row = append(row, same(number, min(times, length-len(row)))...)
		}
		packed(t, row)
	}
}

func TestPackTheGreatestRow(t *testing.T) {
	mixed := make([]int, mostNumbers)
	for i := range mixed {
		mixed[i] = i % 16
	}
	packed(t, mixed)
	for n := range 16 {
		packed(t, same(n, mostNumbers))
		packRefused(t, same(n, mostNumbers+1), api.ErrLimit)
		packRefused(t, same(n, 100000), api.ErrLimit)
	}
	packRefused(t, append(mixed, 1), api.ErrLimit)
}

func TestPackNumbersThatMayNotBe(t *testing.T) {
	for _, bad := range []int{-1, 16, -2, 17, 18, 19, 255, 256, 1 << 32, math.MinInt, math.MaxInt} {
		packRefused(t, []int{bad}, api.ErrArg)
		packRefused(t, []int{bad, bad, bad, bad}, api.ErrArg)
		for _, n := range []int{1, 2, 3, 11, 138, mostNumbers - 1} {
			for _, at := range []int{0, n / 2, n} {
				packRefused(t, slices.Insert(same(5, n), at, bad), api.ErrArg)
				packRefused(t, slices.Insert(same(0, n), at, bad), api.ErrArg)
			}
		}
	}
}

func TestPackTellsTheFirstError(t *testing.T) {
	for _, bad := range []int{-1, 16, math.MinInt, math.MaxInt} {
		for _, at := range []int{0, 500, mostNumbers - 1, mostNumbers, mostNumbers + 500} {
			packRefused(t, slices.Insert(same(5, mostNumbers+500), at, bad), api.ErrArg)
		}
		packRefused(t, append(same(0, mostNumbers), bad), api.ErrArg)
	}
}

func TestPackLeavesTheRowAsItIs(t *testing.T) {
	row := slices.Concat(same(4, 9), same(0, 20), []int{1, 2, 3})
	kept := slices.Clone(row)
	p := packed(t, row)
	if !slices.Equal(row, kept) {
		t.Errorf("the row is now %v", row)
	}
	first := slices.Clone(p)
	for i := range p {
		p[i] = api.Run{Symbol: -1, More: -1}
	}
	if again := packed(t, row); !slices.Equal(again, first) {
		t.Errorf("%+v, then %+v", first, again)
	}
}
