package block

import (
	"montage/api"
	"montage/bits"
	"montage/prefix"
	"montage/shape"
	"montage/token"
)

// codes are those by which a block's symbols, and their distances, are written.
type codes struct {
	symbols, distances *prefix.Table
}

// newCodes answers the codes of lengths that are known to make some: no error comes of them.
func newCodes(symbols, distances []int) codes {
	bySymbol, _ := prefix.New(symbols)
	byDistance, _ := prefix.New(distances)
	return codes{bySymbol, byDistance}
}

// plainCodes answers the codes of all blocks of kind 1.
func plainCodes() codes {
	return newCodes(shape.PlainSymbols(), shape.PlainDistances())
}

// write writes tokens, and the block's end.
func (c codes) write(w *bits.Writer, l []api.Token) {
	for _, t := range l {
		if t.Len == 0 {
			c.symbols.Write(w, int(t.Byte))
		} else {
			c.writeMatch(w, t)
		}
	}
	c.symbols.Write(w, shape.BlockEnd)
}

// writeMatch writes a token's length and its distance.
func (c codes) writeMatch(w *bits.Writer, t api.Token) {
	symbol, width, more, _ := token.Length(t.Len)
	c.symbols.Write(w, symbol)
	w.Put(uint32(more), width)
	symbol, width, more, _ = token.Distance(t.Back)
	c.distances.Write(w, symbol)
	w.Put(uint32(more), width)
}

// size answers how many bits write writes of tokens with such a tally.
func (c codes) size(t tally) int {
	return t.behind + sizeBy(c.symbols, t.symbols[:]) + sizeBy(c.distances, t.distances[:])
}

// sizeBy answers how many bits symbols have that come so often. Layer 6's Cost isn't asked,
// for they may come more often than it takes.
func sizeBy(table *prefix.Table, counts []int) int {
	sum := 0
	for symbol, n := range counts {
		sum += n * table.Bits(symbol)
	}
	return sum
}

// tally is how often each symbol comes in a block, and how many bits stand behind symbols.
type tally struct {
	symbols   [shape.MostSymbols]int
	distances [shape.MostDistances]int
	behind    int
}

// tallyOf answers the tally of tokens, and of the block's end behind them.
func tallyOf(l []api.Token) tally {
	var sum tally
	for _, t := range l {
		if t.Len == 0 {
			sum.symbols[t.Byte]++
		} else {
			sum.addMatch(t)
		}
	}
	sum.symbols[shape.BlockEnd]++
	return sum
}

// addMatch counts a token's length and its distance.
func (sum *tally) addMatch(t api.Token) {
	symbol, lengthWidth, _, _ := token.Length(t.Len)
	sum.symbols[symbol]++
	symbol, distanceWidth, _, _ := token.Distance(t.Back)
	sum.distances[symbol]++
	sum.behind += lengthWidth + distanceWidth
}
