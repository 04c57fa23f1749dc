package block_test

import (
	"math/rand"
	"slices"
	"strings"
	"testing"

	"montage/api"
	"montage/bits"
	"montage/block"
	"montage/match"
)

// window answers as many bytes as the greatest distance asks for.
func window() string {
	return letters(api.MaxWindow)
}

// edgeLengths answers the least and the greatest length of each symbol.
func edgeLengths() []int {
	return edges(3, 258, lengthSymbol)
}

// edgeDistances answers the least and the greatest distance of each symbol.
func edgeDistances() []int {
	return edges(1, 32768, distanceSymbol)
}

func edges(least, greatest int, symbolOf func(n int) (int, int, int)) []int {
	l := []int{least}
	ahead, _, _ := symbolOf(least)
	for n := least + 1; n <= greatest; n++ {
		symbol, _, _ := symbolOf(n)
		if symbol != ahead {
			l = append(l, n-1, n)
		}
		ahead = symbol
	}
	return append(l, greatest)
}

func TestTheEdgesAreThoseOfTheChapter(t *testing.T) {
	lengths, distances := edgeLengths(), edgeDistances()
	if len(lengths) != 2*29 || !slices.Equal(lengths[len(lengths)-4:], []int{227, 257, 258, 258}) {
		t.Errorf("edges of lengths: %v", lengths)
	}
	if len(distances) != 2*30 || !slices.Equal(distances[len(distances)-4:], []int{16385, 24576, 24577, 32768}) {
		t.Errorf("edges of distances: %v", distances)
	}
}

func TestExample(t *testing.T) {
	for _, last := range []bool{false, true} {
		w := bits.NewWriter()
		if e := block.Plain(w, nil, last); w.Len() != 10 || e != api.OK {
			t.Errorf("Plain of no tokens has %d bits, error %d", w.Len(), e)
		}
	}
	if n, _, e := block.Sizes(nil); n != 10 || e != api.OK {
		t.Errorf("by Sizes Plain of no tokens has %d bits, error %d", n, e)
	}
}

func TestPlainBitsWrittenOut(t *testing.T) {
	for _, c := range []struct {
		l    []api.Token
		last bool
		want string
	}{
		{nil, true, "110" + "0000000"},
		{nil, false, "010" + "0000000"},
		{bytesOf("A\xff"), true, "110" + "01110001" + "111111111" + "0000000"},
		{[]api.Token{{Byte: 'A'}, {Len: 3, Back: 1}}, true, "110" + "01110001" + "0000001" + "00000" + "0000000"},
		{[]api.Token{{Len: 12, Back: 8}}, true, "110" + "0001001" + "1" + "00101" + "1" + "0000000"},
		{[]api.Token{{Len: 258, Back: 32768}}, false, "010" + "11000101" + "11101" + "1111111111111" + "0000000"},
		{[]api.Token{{Len: 257, Back: 24577}}, false, "010" + "11000100" + "01111" + "11101" + "0000000000000" + "0000000"},
	} {
		w := bits.NewWriter()
		if e := block.Plain(w, c.l, c.last); bitsIn(w) != c.want || e != api.OK {
			t.Errorf("Plain(%v, %v): %s, %d; want %s", c.l, c.last, bitsIn(w), e, c.want)
		}
	}
}

func TestNoTokens(t *testing.T) {
	for _, ahead := range []string{"", "some bytes"} {
		check(t, ahead, nil)
		check(t, ahead, []api.Token{})
	}
}

func TestEachByte(t *testing.T) {
	for b := range 256 {
		check(t, "", []api.Token{{Byte: byte(b)}})
	}
	check(t, "", bytesOf(allBytes()))
}

func TestOneByteManyTimes(t *testing.T) {
	for _, b := range []byte{0, 'a', 143, 144, 255} {
		for _, n := range []int{2, 3, 11, 1000} {
			check(t, "", slices.Repeat([]api.Token{{Byte: b}}, n))
		}
	}
}

func TestBytesOnly(t *testing.T) {
	for _, text := range []string{"ab", "\x00\xff", letters(3000), strings.Repeat("words of some length ", 50)} {
		check(t, "", bytesOf(text))
	}
}

func TestEachLength(t *testing.T) {
	for n := 3; n <= 258; n++ {
		checkAt(t, "abcd", []api.Token{{Len: n, Back: 1 + n%4}}, n%8)
	}
}

func TestEdgesOfLengths(t *testing.T) {
	for _, n := range edgeLengths() {
		check(t, "abcd", []api.Token{{Len: n, Back: 3}})
		check(t, "", []api.Token{{Byte: 'x'}, {Len: n, Back: 1}, {Byte: 'y'}})
	}
}

func TestEdgesOfDistances(t *testing.T) {
	for i, back := range edgeDistances() {
		checkAt(t, window(), []api.Token{{Len: 3, Back: back}}, i%8)
		checkAt(t, window(), []api.Token{{Byte: 'x'}, {Len: 258, Back: back}, {Byte: 'y'}}, (i+5)%8)
	}
	for _, back := range []int{1, 4, 5, 32768} {
		check(t, window(), []api.Token{{Len: 4, Back: back}})
	}
}

func TestManyDistances(t *testing.T) {
	var l []api.Token
	for back := 1; back <= 32768; back += 1 + back/64 {
		l = append(l, api.Token{Len: 3 + back%256, Back: back})
	}
	checkAt(t, window(), l, 3)
}

func TestMatchesOfOneDistance(t *testing.T) {
	for i, back := range []int{1, 2, 5, 300, 32768} {
		same := slices.Repeat([]api.Token{{Len: 3, Back: back}}, 40)
		checkAt(t, window(), same, i)
		var all []api.Token
		for n := 3; n <= 258; n++ {
			all = append(all, api.Token{Len: n, Back: back})
		}
		checkAt(t, window(), all, i+3)
	}
}

// oneOfEach answers matches of each length's symbol, and of each distance's.
func oneOfEach() []api.Token {
	lengths, distances := edgeLengths(), edgeDistances()
	var l []api.Token
	for i := range max(len(lengths), len(distances)) {
		l = append(l, api.Token{Len: lengths[i%len(lengths)], Back: distances[i%len(distances)]})
	}
	return l
}

func TestMatchesOfAllDistances(t *testing.T) {
	check(t, window(), oneOfEach())
}

func TestEverySymbol(t *testing.T) {
	check(t, window(), slices.Concat(bytesOf(allBytes()), oneOfEach()))
	check(t, window(), slices.Concat(oneOfEach(), bytesOf(allBytes()), oneOfEach()))
}

func TestSymbolsAloneAtTheEndsOfTheirRows(t *testing.T) {
	// Rows of lengths with a number at their first and last places, and zeros between.
	for _, l := range [][]api.Token{
		{{Len: 258, Back: 32768}},
		{{Len: 258, Back: 1}},
		{{Len: 3, Back: 32768}},
		{{Byte: 0}, {Len: 258, Back: 32768}},
		{{Byte: 255}, {Len: 257, Back: 24577}, {Len: 3, Back: 1}},
		{{Len: 3, Back: 1}, {Len: 3, Back: 32768}},
	} {
		check(t, window(), l)
	}
}

func TestTokensOfTexts(t *testing.T) {
	texts := []string{
		strings.Repeat("a block of some words, and of some more words; ", 30),
		letters(2000) + letters(2000), strings.Repeat("ab", 700), "abcabcabd" + allBytes() + allBytes(),
	}
	for level := range 4 {
		for i, text := range texts {
			l, _ := match.Tokens(text, level)
			checkAt(t, "", l, (level+2*i)%8)
		}
	}
}

// byChance answers tokens, of no more bytes, lengths and distances than these, behind so many bytes.
func byChance(choice *rand.Rand, count, there int) []api.Token {
	most := func(n int) int { return 1 + choice.Intn(n) }
	bytes, lengths, distances := most(256), most(256), most(most(32768))
	share := choice.Intn(5) // of matches, in four parts
	var l []api.Token
	for range count {
		t := api.Token{Byte: byte(choice.Intn(most(bytes)))}
		if there > 0 && choice.Intn(4) < share {
			t = api.Token{Len: 2 + most(most(lengths)), Back: min(there, most(distances))}
		}
		l = append(l, t)
		there += max(1, t.Len)
	}
	return l
}

func TestTokensByChance(t *testing.T) {
	choice := rand.New(rand.NewSource(11))
	for i := range 600 {
		ahead := ""
		if i%3 == 0 {
			ahead = window()
		}
		checkAt(t, ahead, byChance(choice, choice.Intn(1+choice.Intn(500)), len(ahead)), i%8)
	}
}

func TestTokensThatReachBehindTheBeginning(t *testing.T) {
	// Such a token may be, whatever stands ahead: its block is written all the same.
	for _, l := range [][]api.Token{
		{{Len: 3, Back: 1}},
		{{Byte: 'a'}, {Len: 258, Back: 32768}},
		{{Len: 10, Back: 24577}, {Byte: 'a'}},
	} {
		for _, c := range writers() {
			for _, last := range []bool{false, true} {
				w := bits.NewWriter()
				if e := c.write(w, l, last); e != api.OK {
					t.Errorf("%s(%v): %d", c.name, l, e)
				}
				checkBits(t, c, l, last, bitsIn(w))
			}
		}
	}
}

func TestTheSameTokensTwice(t *testing.T) {
	l := byChance(rand.New(rand.NewSource(5)), 400, 0)
	for _, c := range writers() {
		first, second := bits.NewWriter(), bits.NewWriter()
		c.write(first, l, true)
		c.write(second, l, true)
		if first.Text() != second.Text() || first.Len() != second.Len() {
			t.Errorf("%s writes other bits the second time", c.name)
		}
	}
}
