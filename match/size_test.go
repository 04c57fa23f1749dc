package match_test

import (
	"math"
	"slices"
	"testing"

	"montage/api"
	"montage/match"
)

func checkSize(t *testing.T, l []api.Token, want int) {
	t.Helper()
	if n := match.Size(l); n != want {
		t.Errorf("Size(%+v) = %d, want %d", l, n, want)
	}
}

func TestSizeOfNothing(t *testing.T) {
	checkSize(t, nil, 0)
	checkSize(t, []api.Token{}, 0)
}

func TestSizeOfTokensThatMayBe(t *testing.T) {
	checkSize(t, []api.Token{{}}, 1)
	checkSize(t, []api.Token{{Byte: 'a'}}, 1)
	checkSize(t, []api.Token{{Byte: 255}, {Byte: 1}}, 2)
	checkSize(t, []api.Token{{Len: 3, Back: 1}}, 3)
	checkSize(t, []api.Token{{Len: 258, Back: 32768}}, 258)
	checkSize(t, []api.Token{{Byte: 'a'}, {Len: 3, Back: 1}, {Byte: 'b'}, {Len: 258, Back: 2}}, 1+3+1+258)
	for n := 3; n <= 258; n++ {
		checkSize(t, []api.Token{{Len: n, Back: 1}}, n)
	}
}

func TestSizeBringsLengthsToTheirRange(t *testing.T) {
	for _, c := range [][2]int{
		{math.MinInt, 1}, {math.MinInt + 1, 1}, {-1 << 32, 1}, {-258, 1}, {-3, 1}, {-1, 1}, {0, 1}, {1, 1}, {2, 2},
		{257, 257}, {258, 258}, {259, 258}, {260, 258}, {32768, 258}, {1 << 32, 258}, {1<<32 + 3, 258}, {math.MaxInt - 1, 258}, {math.MaxInt, 258},
	} {
		n, want := c[0], c[1]
		checkSize(t, []api.Token{{Len: n}}, want)
		// Its other parts play no part.
		checkSize(t, []api.Token{{Byte: 9, Len: n, Back: -1}}, want)
		checkSize(t, []api.Token{{Byte: 9, Len: n, Back: math.MaxInt}}, want)
		// Each one is brought there by itself, ahead of adding.
		checkSize(t, []api.Token{{Len: n}, {Len: n}, {Len: 7, Back: 1}}, 2*want+7)
	}
	checkSize(t, []api.Token{{Len: math.MinInt}, {Len: math.MaxInt}, {Len: math.MaxInt}, {Len: -3}, {Len: 999}, {Len: 4}}, 1+258+258+1+258+4)
}

func TestSizeOfManyTokens(t *testing.T) {
	l := make([]api.Token, 100000)
	checkSizeOfAll := func(n, want int) {
		for i := range l {
			l[i].Len = n
		}
		if got := match.Size(l); got != want*len(l) {
			t.Errorf("%d tokens of %d: %d", len(l), n, got)
		}
	}
	checkSizeOfAll(0, 1)
	checkSizeOfAll(258, 258)
	checkSizeOfAll(math.MaxInt, 258)
	checkSizeOfAll(math.MinInt, 1)
}

func TestSizeLeavesTokensAsTheyAre(t *testing.T) {
	l := []api.Token{{Byte: 'a'}, {Len: -5, Back: 3}, {Len: 999, Back: 1}}
	kept := slices.Clone(l)
	checkSize(t, l, 1+1+258)
	if !slices.Equal(l, kept) {
		t.Errorf("the tokens are now %+v", l)
	}
}
