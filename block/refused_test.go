package block_test

import (
	"math"
	"slices"
	"strings"
	"testing"

	"montage/api"
	"montage/bits"
	"montage/block"
)

// badTokens may not be, by the words of layer 7.
func badTokens() []api.Token {
	return []api.Token{
		{Len: 1}, {Len: 2}, {Len: 1, Back: 1}, {Len: 2, Back: 1}, {Len: 259, Back: 1}, {Len: -1}, {Len: -1, Back: 1},
		{Len: -3, Back: 1}, {Len: math.MinInt, Back: 1}, {Len: math.MaxInt, Back: 1}, {Len: 1<<32 + 3, Back: 1},
		{Len: 3}, {Len: 258}, {Len: 3, Back: -1}, {Len: 3, Back: 32769}, {Len: 3, Back: math.MinInt}, {Len: 3, Back: math.MaxInt},
		{Len: 3, Back: 1<<32 + 1}, {Len: 3, Back: 1, Byte: 1}, {Len: 258, Back: 32768, Byte: 255},
		{Back: 1}, {Back: -1}, {Byte: 'a', Back: 1}, {Byte: 'a', Back: 32768}, {Byte: 'a', Len: 3}, {Back: math.MinInt},
	}
}

// refused holds all three calls against ErrArg, behind so many bits.
func refused(t *testing.T, l []api.Token, skew int) {
	t.Helper()
	kept := slices.Clone(l)
	for _, c := range writers() {
		for _, last := range []bool{false, true} {
			w := bits.NewWriter()
			w.Put(1<<20-1, skew)
			if e := c.write(w, l, last); e != api.ErrArg || bitsIn(w) != strings.Repeat("1", skew) {
				t.Errorf("%s behind %d bits: error %d, then %d bits", c.name, skew, e, w.Len())
			}
			if e := c.write(nil, l, last); e != api.ErrArg {
				t.Errorf("%s of no writer: %d", c.name, e)
			}
		}
	}
	if plain, own, e := block.Sizes(l); plain != 0 || own != 0 || e != api.ErrArg {
		t.Errorf("Sizes: %d, %d, %d", plain, own, e)
	}
	if !slices.Equal(l, kept) {
		t.Errorf("the tokens are changed")
	}
}

func TestTokensThatMayNotBe(t *testing.T) {
	good := []api.Token{{Byte: 'a'}, {Byte: 'b'}, {Len: 3, Back: 2}, {Byte: 'c'}, {Len: 258, Back: 1}, {Byte: 'd'}}
	for _, bad := range badTokens() {
		for skew := range 20 {
			refused(t, []api.Token{bad}, skew)
			refused(t, []api.Token{bad, bad}, skew)
			for at := range len(good) + 1 {
				refused(t, slices.Insert(slices.Clone(good), at, bad), skew)
			}
		}
		many := append(bytesOf(letters(2000)), bad)
		refused(t, many, 5)
		refused(t, append(many, bytesOf("abc")...), 6)
	}
}

func TestARefusedCallLeavesTheStream(t *testing.T) {
	s := begun("", 3)
	for _, bad := range badTokens() {
		block.Plain(s.w, []api.Token{{Byte: 'x'}, bad}, true)
		block.Own(s.w, []api.Token{{Byte: 'x'}, bad}, true)
		block.Stored(s.w, strings.Repeat("x", greatestStored+1), true)
	}
	block.Own(s.w, bytesOf("said"), true)
	s.add("said", 2)
	s.check(t)
}

func TestNoWriter(t *testing.T) {
	for _, last := range []bool{false, true} {
		for _, text := range storedTexts() {
			if e := block.Stored(nil, text, last); e != api.OK {
				t.Errorf("Stored of %d bytes: %d", len(text), e)
			}
		}
		if e := block.Stored(nil, strings.Repeat("x", greatestStored+1), last); e != api.ErrLimit {
			t.Errorf("Stored of too many bytes: %d", e)
		}
		for _, c := range writers() {
			for _, l := range [][]api.Token{nil, {}, {{Byte: 'a'}}, oneOfEach(), bytesOf(allBytes())} {
				if e := c.write(nil, l, last); e != api.OK {
					t.Errorf("%s of %d tokens: %d", c.name, len(l), e)
				}
			}
		}
	}
}
