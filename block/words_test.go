package block_test

import (
	"slices"
	"strings"
	"testing"

	"montage/api"
	"montage/bits"
	"montage/block"
	"montage/inflate"
)

// Bits are told as texts of 0 and 1, the first one first.

// number answers a number of n bits, its bit of 1 first.
func number(v, n int) string {
	var b strings.Builder
	for i := range n {
		b.WriteByte(byte('0' + v>>i&1))
	}
	return b.String()
}

// code answers a code of n bits, the highest first.
func code(v, n int) string {
	var b strings.Builder
	for i := n - 1; i >= 0; i-- {
		b.WriteByte(byte('0' + v>>i&1))
	}
	return b.String()
}

// bitsIn answers what a writer has.
func bitsIn(w *bits.Writer) string {
	return bitsFrom(w, 0)
}

// bitsFrom answers what a writer has from a place on.
func bitsFrom(w *bits.Writer, from int) string {
	text := w.Text()
	var b strings.Builder
	for i := from; i < w.Len(); i++ {
		b.WriteByte('0' + text[i/8]>>(i%8)&1)
	}
	return b.String()
}

// put writes bits.
func put(w *bits.Writer, told string) {
	for _, bit := range []byte(told) {
		w.Put(uint32(bit-'0'), 1)
	}
}

// head answers what a block begins with.
func head(kind int, last bool) string {
	if last {
		return "1" + number(kind, 2)
	}
	return "0" + number(kind, 2)
}

// plainSymbol answers the code of a symbol in a block of kind 1.
func plainSymbol(symbol int) string {
	switch {
	case symbol <= 143:
		return code(0b00110000+symbol, 8)
	case symbol <= 255:
		return code(0b110010000+symbol-144, 9)
	case symbol <= 279:
		return code(symbol-256, 7)
	}
	return code(0b11000000+symbol-280, 8)
}

// lengthSymbol answers a length's symbol, how many bits are behind it, and the number in
// them: it goes up from the least length, by the words of layer 7.
func lengthSymbol(n int) (int, int, int) {
	if n == 258 {
		return 285, 0, 0
	}
	return symbolFrom(n, 3, 257, func(symbol int) int { return (symbol - 261) / 4 })
}

// distanceSymbol answers the same of a distance.
func distanceSymbol(n int) (int, int, int) {
	return symbolFrom(n, 1, 0, func(symbol int) int { return symbol/2 - 1 })
}

func symbolFrom(n, from, symbol int, widthOf func(symbol int) int) (int, int, int) {
	for {
		width := max(0, widthOf(symbol))
		if n < from+1<<width {
			return symbol, width, n - from
		}
		from += 1 << width
		symbol++
	}
}

// plainBlock answers the bits of a block of kind 1.
func plainBlock(l []api.Token, last bool) string {
	var b strings.Builder
	b.WriteString(head(1, last))
	for _, t := range l {
		if t.Len == 0 {
			b.WriteString(plainSymbol(int(t.Byte)))
			continue
		}
		symbol, width, more := lengthSymbol(t.Len)
		b.WriteString(plainSymbol(symbol) + number(more, width))
		symbol, width, more = distanceSymbol(t.Back)
		b.WriteString(code(symbol, 5) + number(more, width))
	}
	b.WriteString(plainSymbol(256))
	return b.String()
}

// storedBlock answers the bits of a block of kind 0 behind so many others.
func storedBlock(ahead int, s string, last bool) string {
	var b strings.Builder
	b.WriteString(head(0, last))
	for (ahead+b.Len())%8 > 0 {
		b.WriteByte('0')
	}
	b.WriteString(number(len(s), 16) + number(len(s)^0xffff, 16))
	for _, c := range []byte(s) {
		b.WriteString(number(int(c), 8))
	}
	return b.String()
}

// stream is a stream on its way: what is written of it, and what that says.
type stream struct {
	w     *bits.Writer
	said  string
	kinds []int
}

// begun answers a stream that says these bytes, and one more if skew is odd, with so many
// bits behind the end of a byte. No call of the package has written any of it.
func begun(ahead string, skew int) *stream {
	s := &stream{w: bits.NewWriter(), said: ahead}
	for piece := range slices.Chunk([]byte(ahead), 65535) {
		put(s.w, head(0, false))
		s.w.Write(string([]byte{byte(len(piece)), byte(len(piece) >> 8), ^byte(len(piece)), ^byte(len(piece) >> 8)}))
		s.w.Write(string(piece))
		s.kinds = append(s.kinds, 0)
	}
	if skew%2 == 1 {
		// A byte of 9 bits makes an odd number of them.
		s.words([]api.Token{{Byte: 200}}, false)
		s.said += "\xc8"
	}
	for s.w.Len()%8 != skew {
		s.words(nil, false)
	}
	return s
}

// words adds a block of kind 1 by words alone.
func (s *stream) words(l []api.Token, last bool) {
	put(s.w, plainBlock(l, last))
	s.kinds = append(s.kinds, 1)
}

// add adds what a block says, and its kind.
func (s *stream) add(said string, kind int) {
	s.said += said
	s.kinds = append(s.kinds, kind)
}

// addTokens adds what tokens say behind what is there, and a block's kind.
func (s *stream) addTokens(l []api.Token, kind int) {
	said := []byte(s.said)
	for _, t := range l {
		if t.Len == 0 {
			said = append(said, t.Byte)
		}
		for range t.Len {
			said = append(said, said[len(said)-t.Back])
		}
	}
	s.said = string(said)
	s.kinds = append(s.kinds, kind)
}

// ended ends a stream whose last block isn't there yet.
func (s *stream) ended(last bool) {
	if !last {
		s.words(nil, true)
	}
}

// check holds the stream against layer 8.
func (s *stream) check(t *testing.T) {
	t.Helper()
	got, e := inflate.All(s.w.Text(), len(s.said))
	if got != s.said || e != api.OK {
		t.Errorf("layer 8 reads %d bytes, error %d, and not the %d bytes that are written", len(got), e, len(s.said))
	}
	kinds, e := inflate.Blocks(s.w.Text(), len(s.said))
	if !slices.Equal(kinds, s.kinds) || e != api.OK {
		t.Errorf("layer 8 reads kinds %v, error %d, want %v", kinds, e, s.kinds)
	}
}

// writer is Plain or Own.
type writer struct {
	name  string
	kind  int
	write func(w *bits.Writer, l []api.Token, last bool) api.Errno
}

func writers() []writer {
	return []writer{{"Plain", 1, block.Plain}, {"Own", 2, block.Own}}
}

// size answers what Sizes says of this writer.
func (c writer) size(l []api.Token) (int, api.Errno) {
	plain, own, e := block.Sizes(l)
	if c.kind == 1 {
		return plain, e
	}
	return own, e
}

// checkAt holds all calls of tokens against the chapter, behind so many bits of a stream
// that says the bytes ahead.
func checkAt(t *testing.T, ahead string, l []api.Token, skew int) {
	t.Helper()
	kept := slices.Clone(l)
	for _, c := range writers() {
		for _, last := range []bool{false, true} {
			s := begun(ahead, skew)
			from := s.w.Len()
			bytes, begunByte := s.w.Text()[:from/8], bitsFrom(s.w, from-from%8)
			if e := c.write(s.w, l, last); e != api.OK {
				t.Errorf("%s behind %d bits: error %d", c.name, skew, e)
				continue
			}
			written, ok := strings.CutPrefix(bitsFrom(s.w, from-from%8), begunByte)
			if !ok || !strings.HasPrefix(s.w.Text(), bytes) {
				t.Errorf("%s changed the bits ahead", c.name)
			}
			checkBits(t, c, l, last, written)
			s.addTokens(l, c.kind)
			s.ended(last)
			s.check(t)
		}
	}
	if !slices.Equal(l, kept) {
		t.Errorf("the tokens are changed")
	}
}

// checkBits holds a block's bits against Sizes, and against the words as far as they tell them.
func checkBits(t *testing.T, c writer, l []api.Token, last bool, written string) {
	t.Helper()
	if n, e := c.size(l); n != len(written) || e != api.OK {
		t.Errorf("%s writes %d bits, by Sizes %d, %d", c.name, len(written), n, e)
	}
	if !strings.HasPrefix(written, head(c.kind, last)) {
		t.Errorf("%s begins with %.3s", c.name, written)
	}
	if c.kind == 1 && written != plainBlock(l, last) {
		t.Errorf("%s of %d tokens writes other bits than the words say", c.name, len(l))
	}
}

// check does as checkAt at every place in a byte.
func check(t *testing.T, ahead string, l []api.Token) {
	t.Helper()
	for skew := range 8 {
		checkAt(t, ahead, l, skew)
	}
}

// bytesOf answers tokens that are bytes alone.
func bytesOf(s string) []api.Token {
	l := make([]api.Token, 0, len(s))
	for _, b := range []byte(s) {
		l = append(l, api.Token{Byte: b})
	}
	return l
}

// allBytes answers each byte once.
func allBytes() string {
	b := make([]byte, 256)
	for i := range b {
		b[i] = byte(i)
	}
	return string(b)
}

// letters answers n bytes that don't soon come again.
func letters(n int) string {
	b := make([]byte, n)
	v := uint32(7)
	for i := range b {
		v = v*1664525 + 1013904223
		b[i] = byte(v >> 24)
	}
	return string(b)
}
