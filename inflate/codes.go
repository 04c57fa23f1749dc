package inflate

import (
	"slices"

	"montage/api"
	"montage/prefix"
)

// How many bits the three numbers have with which a block of kind 2 begins, and what
// each of them is less than what it tells.
const (
	symbolsBits    = 5
	distancesBits  = 5
	firstBits      = 4
	leastSymbols   = 257
	leastDistances = 1
	leastFirst     = 4
)

// How many lengths such a block may tell, though the numbers have room for more.
const (
	mostSymbols   = 286
	mostDistances = 30
)

const firstLengthBits = 3

// The symbols of the first code that aren't lengths; behind these comes 18, of more zeros.
const (
	again    = 16 // the length ahead once more
	fewZeros = 17
)

// firstOrder is the order in which the first code's lengths stand.
var firstOrder = [...]int{16, 17, 18, 0, 8, 7, 9, 6, 10, 5, 11, 4, 12, 3, 13, 2, 14, 1, 15}

// codes are those by which a block's symbols, and their distances, are told.
type codes struct {
	symbols, distances *prefix.Table
}

// newCodes answers the codes that lengths make.
func newCodes(symbols, distances []int) (codes, api.Errno) {
	bySymbol, err := prefix.New(symbols)
	if err != api.OK {
		return codes{}, err
	}
	byDistance, err := prefix.New(distances)
	if err != api.OK {
		return codes{}, err
	}
	return codes{bySymbol, byDistance}, api.OK
}

// fixedCodes answers the codes of all blocks of kind 1. Both are full ones: no error comes of them.
func (d *stream) fixedCodes() codes {
	if d.fixed.symbols == nil {
		d.fixed, _ = newCodes(fixedSymbols(), slices.Repeat([]int{5}, 32))
	}
	return d.fixed
}

// fixedSymbols answers the lengths of symbols in blocks of kind 1.
func fixedSymbols() []int {
	return slices.Concat(
		slices.Repeat([]int{8}, 144),
		slices.Repeat([]int{9}, 112),
		slices.Repeat([]int{7}, 24),
		slices.Repeat([]int{8}, 8),
	)
}

// ownCodes reads the codes that a block of kind 2 brings along.
func (d *stream) ownCodes() (codes, api.Errno) {
	symbols := leastSymbols + int(d.source.Bits(symbolsBits))
	distances := leastDistances + int(d.source.Bits(distancesBits))
	firsts := leastFirst + int(d.source.Bits(firstBits))
	if err := d.source.Err(); err != api.OK {
		return codes{}, err
	}
	if symbols > mostSymbols || distances > mostDistances {
		return codes{}, api.ErrForm
	}
	first, err := d.firstCode(firsts)
	if err != api.OK {
		return codes{}, err
	}
	row, err := d.row(first, symbols+distances)
	if err != api.OK {
		return codes{}, err
	}
	if row[blockEnd] == 0 {
		return codes{}, api.ErrForm
	}
	return newCodes(row[:symbols], row[symbols:])
}

// firstCode reads the code by which the lengths of the two others are told. An empty one
// isn't asked for here: a row has lengths, and the first of them gets ErrCode of its table.
func (d *stream) firstCode(n int) (*prefix.Table, api.Errno) {
	lengths := make([]int, len(firstOrder))
	for i := range n {
		lengths[firstOrder[i]] = int(d.source.Bits(firstLengthBits))
	}
	if err := d.source.Err(); err != api.OK {
		return nil, err
	}
	return prefix.New(lengths)
}

// row reads n lengths by the first code.
func (d *stream) row(first *prefix.Table, n int) ([]int, api.Errno) {
	row := make([]int, 0, n)
	for len(row) < n {
		symbol, err := first.Read(d.source)
		if err != api.OK {
			return nil, err
		}
		if symbol <= api.MaxCode {
			row = append(row, symbol)
			continue
		}
		// Nothing stands ahead, so that it is wrong whatever the bits behind it are.
		if symbol == again && len(row) == 0 {
			return nil, api.ErrForm
		}
		times, err := d.times(symbol)
		if err != api.OK {
			return nil, err
		}
		if times > n-len(row) {
			return nil, api.ErrForm
		}
		length := 0
		if symbol == again {
			length = row[len(row)-1]
		}
		row = append(row, slices.Repeat([]int{length}, times)...)
	}
	return row, api.OK
}

// times reads how often a length is repeated.
func (d *stream) times(symbol int) (int, api.Errno) {
	switch symbol {
	case again:
		return d.above(3, 2)
	case fewZeros:
		return d.above(3, 3)
	}
	return d.above(11, 7)
}
