package inflate_test

import (
	"slices"
	"strings"
	"testing"

	"montage/api"
	"montage/bits"
	"montage/inflate"
)

// check holds all three calls against what the chapter asks for: what is said, how many
// bytes are taken, the blocks' kinds; or an error, and nothing beside it.
func check(t *testing.T, s string, most int, want string, taken int, kinds []int) {
	t.Helper()
	said, n, err := inflate.Stream(s, most)
	if said != want || n != taken || err != api.OK {
		t.Errorf("Stream(%s, %d) = %s, %d, %d; want %s, %d, 0", short(s), most, short(said), n, err, short(want), taken)
	}
	got, err := inflate.Blocks(s, most)
	if !slices.Equal(got, kinds) || err != api.OK {
		t.Errorf("Blocks(%s, %d) = %v, %d; want %v, 0", short(s), most, got, err, kinds)
	}
	all, allErr := want, api.OK
	if taken < len(s) {
		all, allErr = "", api.ErrForm
	}
	if said, err := inflate.All(s, most); said != all || err != allErr {
		t.Errorf("All(%s, %d) = %s, %d; want %s, %d", short(s), most, short(said), err, short(all), allErr)
	}
}

// refused holds all three calls against an error.
func refused(t *testing.T, s string, most int, want api.Errno) {
	t.Helper()
	if said, n, err := inflate.Stream(s, most); said != "" || n != 0 || err != want {
		t.Errorf("Stream(%s, %d) = %s, %d, %d; want %d", short(s), most, short(said), n, err, want)
	}
	if said, err := inflate.All(s, most); said != "" || err != want {
		t.Errorf("All(%s, %d) = %s, %d; want %d", short(s), most, short(said), err, want)
	}
	if kinds, err := inflate.Blocks(s, most); len(kinds) != 0 || err != want {
		t.Errorf("Blocks(%s, %d) = %v, %d; want %d", short(s), most, kinds, err, want)
	}
}

// short answers a text as it is told where it isn't what it should be.
func short(s string) string {
	const enough = 60
	var b strings.Builder
	for i := range min(len(s), enough) {
		const digits = "0123456789abcdef"
		b.WriteByte(digits[s[i]>>4])
		b.WriteByte(digits[s[i]&15])
	}
	if len(s) > enough {
		b.WriteString("..")
	}
	return "[" + b.String() + "]"
}

// pen writes streams, bit by bit.
type pen struct {
	w *bits.Writer
}

func newPen() *pen {
	return &pen{bits.NewWriter()}
}

func (p *pen) text() string {
	return p.w.Text()
}

// put writes a number of n bits.
func (p *pen) put(v, n int) {
	p.w.Put(uint32(v), n)
}

// code writes a code, told as a text of 0 and 1.
func (p *pen) code(code string) {
	for i := range len(code) {
		p.put(int(code[i]-'0'), 1)
	}
}

// head writes what each block begins with.
func (p *pen) head(last bool, kind int) {
	if last {
		p.put(1, 1)
	} else {
		p.put(0, 1)
	}
	p.put(kind, 2)
}

// stored writes a block of kind 0.
func (p *pen) stored(last bool, s string) {
	p.head(last, 0)
	p.w.Align()
	p.put(len(s), 16)
	p.put(^len(s), 16)
	p.w.Write(s)
}

// firstPlaces is the order in which the first code's lengths stand.
var firstPlaces = []int{16, 17, 18, 0, 8, 7, 9, 6, 10, 5, 11, 4, 12, 3, 13, 2, 14, 1, 15}

// anyFirst are lengths of a first code that has all of its symbols.
var anyFirst = []int{4, 4, 4, 4, 4, 4, 4, 4, 4, 4, 4, 4, 4, 5, 5, 5, 5, 5, 5}

// sizes writes the three numbers of a block of kind 2: how many lengths there are of symbols,
// of distances and of the first code.
func (p *pen) sizes(symbols, distances, firsts int) {
	p.put(symbols-257, 5)
	p.put(distances-1, 5)
	p.put(firsts-4, 4)
}

// firsts writes so many of the first code's lengths.
func (p *pen) firsts(lengths []int, n int) {
	for _, symbol := range firstPlaces[:n] {
		p.put(lengths[symbol], 3)
	}
}

// runs writes a row by the first code.
func (p *pen) runs(first []int, row []api.Run) {
	codes := codesOf(first)
	for _, run := range row {
		p.code(codes[run.Symbol])
		switch run.Symbol {
		case 16:
			p.put(run.More, 2)
		case 17:
			p.put(run.More, 3)
		case 18:
			p.put(run.More, 7)
		}
	}
}

// own writes the beginning of a block of kind 2, up to its first symbol.
func (p *pen) own(last bool, symbols, distances int, row []api.Run) {
	p.head(last, 2)
	p.sizes(symbols, distances, 19)
	p.firsts(anyFirst, 19)
	p.runs(anyFirst, row)
}

// each answers a row of lengths, none of which is repeated.
func each(lengths ...[]int) []api.Run {
	var row []api.Run
	for _, n := range slices.Concat(lengths...) {
		row = append(row, api.Run{Symbol: n})
	}
	return row
}

// codesOf answers of each symbol its code by the words of layer 5, as a text of 0 and 1.
func codesOf(lengths []int) []string {
	codes := make([]string, len(lengths))
	number, ahead := -1, 0
	for n := 1; n <= 15; n++ {
		for symbol, length := range lengths {
			if length != n {
				continue
			}
			number++
			if ahead > 0 {
				number <<= n - ahead
			}
			ahead = n
			for i := n - 1; i >= 0; i-- {
				codes[symbol] += string(rune('0' + number>>i&1))
			}
		}
	}
	return codes
}

// script writes a block's symbols by a pair of codes.
type script struct {
	*pen
	symbols, distances []string
}

// fixed begins a block of kind 1.
func (p *pen) fixed(last bool) script {
	p.head(last, 1)
	return script{p, codesOf(fixedLengths()), codesOf(slices.Repeat([]int{5}, 32))}
}

func fixedLengths() []int {
	lengths := make([]int, 288)
	for symbol := range lengths {
		switch {
		case symbol <= 143:
			lengths[symbol] = 8
		case symbol <= 255:
			lengths[symbol] = 9
		case symbol <= 279:
			lengths[symbol] = 7
		default:
			lengths[symbol] = 8
		}
	}
	return lengths
}

// ownOf begins a block of kind 2 with such lengths.
func (p *pen) ownOf(last bool, symbols, distances []int) script {
	p.own(last, len(symbols), len(distances), each(symbols, distances))
	return script{p, codesOf(symbols), codesOf(distances)}
}

// wide begins a block of kind 2 with a code of each symbol and of each distance that may be.
func (p *pen) wide(last bool) script {
	symbols := slices.Concat(slices.Repeat([]int{9}, 60), slices.Repeat([]int{8}, 226))
	distances := slices.Concat(slices.Repeat([]int{5}, 14), []int{4, 4}, slices.Repeat([]int{5}, 14))
	return p.ownOf(last, symbols, distances)
}

// coded begins a block of a kind that has codes.
func (p *pen) coded(last bool, kind int) script {
	if kind == 1 {
		return p.fixed(last)
	}
	return p.wide(last)
}

// say writes bytes as symbols.
func (c script) say(s string) {
	for i := range len(s) {
		c.code(c.symbols[s[i]])
	}
}

// part writes a symbol of lengths, and the bits behind it.
func (c script) part(symbol, more int) {
	c.code(c.symbols[symbol])
	c.put(more, lengthWidth(symbol))
}

// back writes a symbol of distances, and the bits behind it.
func (c script) back(symbol, more int) {
	c.code(c.distances[symbol])
	c.put(more, distanceWidth(symbol))
}

// again writes a length and a distance.
func (c script) again(n, back int) {
	symbol, more := lengthSymbol(n)
	c.part(symbol, more)
	c.back(distanceSymbol(back))
}

// end writes the block's end.
func (c script) end() {
	c.code(c.symbols[256])
}

// lengthFrom are the least lengths of the symbols from 257 on, with how many bits each has.
var lengthFrom = [][2]int{
	{3, 0}, {4, 0}, {5, 0}, {6, 0}, {7, 0}, {8, 0}, {9, 0}, {10, 0},
	{11, 1}, {13, 1}, {15, 1}, {17, 1}, {19, 2}, {23, 2}, {27, 2}, {31, 2},
	{35, 3}, {43, 3}, {51, 3}, {59, 3}, {67, 4}, {83, 4}, {99, 4}, {115, 4},
	{131, 5}, {163, 5}, {195, 5}, {227, 5}, {258, 0},
}

// distanceFrom are those of the distances from 0 on.
var distanceFrom = [][2]int{
	{1, 0}, {2, 0}, {3, 0}, {4, 0}, {5, 1}, {7, 1}, {9, 2}, {13, 2}, {17, 3}, {25, 3},
	{33, 4}, {49, 4}, {65, 5}, {97, 5}, {129, 6}, {193, 6}, {257, 7}, {385, 7}, {513, 8}, {769, 8},
	{1025, 9}, {1537, 9}, {2049, 10}, {3073, 10}, {4097, 11}, {6145, 11}, {8193, 12}, {12289, 12},
	{16385, 13}, {24577, 13},
}

func lengthWidth(symbol int) int {
	if symbol < 257 || symbol > 285 {
		return 0
	}
	return lengthFrom[symbol-257][1]
}

func distanceWidth(symbol int) int {
	if symbol > 29 {
		return 0
	}
	return distanceFrom[symbol][1]
}

// lengthSymbol answers by which symbol and number a length is told.
func lengthSymbol(n int) (int, int) {
	i := len(lengthFrom) - 1
	for lengthFrom[i][0] > n {
		i--
	}
	return 257 + i, n - lengthFrom[i][0]
}

// distanceSymbol answers by which symbol and number a distance is told.
func distanceSymbol(n int) (int, int) {
	i := len(distanceFrom) - 1
	for distanceFrom[i][0] > n {
		i--
	}
	return i, n - distanceFrom[i][0]
}

// copied answers s with n bytes behind it that stand so far back.
func copied(s string, n, back int) string {
	end := s[len(s)-back:]
	return s + strings.Repeat(end, n/back+1)[:n]
}

// letters answers n bytes that don't soon come again.
func letters(n int) string {
	b := make([]byte, n)
	v := uint32(1)
	for i := range b {
		v = v*1664525 + 1013904223
		b[i] = byte(v >> 24)
	}
	return string(b)
}

// zeros answers n lengths of 0.
func zeros(n int) []int {
	return make([]int, n)
}

// only answers n lengths, of 0 but for the one at a place.
func only(n, at, length int) []int {
	l := zeros(n)
	l[at] = length
	return l
}

// cut answers a stream whose bits end just behind those that write writes. Blocks that
// say nothing stand ahead, so that these end with a byte.
func cut(t *testing.T, write func(p *pen)) string {
	t.Helper()
	for n := range 8 {
		p := newPen()
		if n%2 == 1 {
			p.nothing()
		}
		for range n / 2 {
			p.fixed(false).end()
		}
		write(p)
		if p.w.Len()%8 == 0 {
			return p.text()
		}
	}
	t.Fatal("bits that don't come to bytes")
	return ""
}

// nothing writes a block of kind 2 that says nothing, in an odd number of bits.
func (p *pen) nothing() {
	from := p.w.Len()
	first := only(19, 18, 1) // 18 has the code 0, and 1 the code 1
	first[1] = 1
	p.head(false, 2)
	p.sizes(257, 1, 19)
	p.firsts(first, 19)
	p.runs(first, []api.Run{{Symbol: 18, More: 127}, {Symbol: 18, More: 107}, {Symbol: 1}, {Symbol: 1}})
	p.code("0")
	if (p.w.Len()-from)%2 == 0 {
		panic("an even number of bits")
	}
}
