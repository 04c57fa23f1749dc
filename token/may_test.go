package token_test

import (
	"math"
	"testing"

	"montage/api"
	"montage/token"
)

// mayBe tells by the chapter's words whether a token may be.
func mayBe(t api.Token) bool {
	aByte := t.Len == 0 && t.Back == 0
	aCopy := t.Len >= 3 && t.Len <= 258 && t.Back >= 1 && t.Back <= 32768 && t.Byte == 0
	return aByte || aCopy
}

var numbers = []int{math.MinInt, math.MinInt + 1, -32768, -258, -3, -2, -1, 0, 1, 2, 3, 4, 100, 256, 257, 258, 259, 260, 512, 32767, 32768, 32769, 65536, 1 << 32, 1<<32 + 3, math.MaxInt - 1, math.MaxInt}

func TestMayAtEdges(t *testing.T) {
	for _, c := range []struct {
		token api.Token
		want  bool
	}{
		{api.Token{}, true},
		{api.Token{Byte: 1}, true},
		{api.Token{Byte: 255}, true},
		{api.Token{Back: 1}, false},
		{api.Token{Back: -1}, false},
		{api.Token{Byte: 'a', Back: 1}, false},
		{api.Token{Back: 32768}, false},
		{api.Token{Len: -1, Back: 1}, false},
		{api.Token{Len: -1}, false},
		{api.Token{Len: 1, Back: 1}, false},
		{api.Token{Len: 2, Back: 1}, false},
		{api.Token{Len: 3, Back: 1}, true},
		{api.Token{Len: 258, Back: 1}, true},
		{api.Token{Len: 259, Back: 1}, false},
		{api.Token{Len: 3}, false},
		{api.Token{Len: 3, Back: -1}, false},
		{api.Token{Len: 3, Back: 32768}, true},
		{api.Token{Len: 3, Back: 32769}, false},
		{api.Token{Len: 258, Back: 32768}, true},
		{api.Token{Byte: 1, Len: 3, Back: 1}, false},
		{api.Token{Byte: 255, Len: 258, Back: 32768}, false},
	} {
		if got := token.May(c.token); got != c.want {
			t.Errorf("May(%+v) = %v, want %v", c.token, got, c.want)
		}
	}
}

func TestMayByTheWords(t *testing.T) {
	for _, n := range numbers {
		for _, back := range numbers {
			for _, b := range []byte{0, 1, 'a', 255} {
				c := api.Token{Byte: b, Len: n, Back: back}
				if got := token.May(c); got != mayBe(c) {
					t.Errorf("May(%+v) = %v", c, got)
				}
			}
		}
	}
}

func TestMayOfEachByteLengthAndDistance(t *testing.T) {
	for b := range 256 {
		if !token.May(api.Token{Byte: byte(b)}) {
			t.Errorf("the byte %d may not be", b)
		}
	}
	for n := -10; n < 600; n++ {
		c := api.Token{Len: n, Back: 7}
		if got := token.May(c); got != mayBe(c) {
			t.Errorf("May(%+v) = %v", c, got)
		}
	}
	for back := -10; back < 70000; back++ {
		c := api.Token{Len: 7, Back: back}
		if got := token.May(c); got != mayBe(c) {
			t.Errorf("May(%+v) = %v", c, got)
		}
	}
}
