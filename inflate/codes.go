package inflate

import (
	"slices"

	"montage/api"
	"montage/prefix"
	"montage/shape"
)

// The symbols of the first code that aren't lengths; behind these comes 18, of more zeros.
const (
	again    = 16 // the length ahead once more
	fewZeros = 17
)

// codes are those by which a block's symbols, and their distances, are told.
type codes struct {
	symbols, distances *prefix.Table
}

// newCodes answers the codes that lengths make.
func newCodes(symbols, distances []int) (codes, api.Errno) {
	bySymbol, err := prefix.New(symbols)
	if err != api.OK {
		return codes{}, err
	}
	byDistance, err := prefix.New(distances)
	if err != api.OK {
		return codes{}, err
	}
	return codes{bySymbol, byDistance}, api.OK
}

// plainCodes answers the codes of all blocks of kind 1. Both are full ones: no error comes of them.
func (d *stream) plainCodes() codes {
	if d.plain.symbols == nil {
		d.plain, _ = newCodes(shape.PlainSymbols(), shape.PlainDistances())
	}
	return d.plain
}

// ownCodes reads the codes that a block of kind 2 brings along.
func (d *stream) ownCodes() (codes, api.Errno) {
	symbols := shape.LeastSymbols + int(d.source.Bits(shape.SymbolsBits))
	distances := shape.LeastDistances + int(d.source.Bits(shape.DistancesBits))
	firsts := shape.LeastFirsts + int(d.source.Bits(shape.FirstsBits))
	if err := d.source.Err(); err != api.OK {
		return codes{}, err
	}
	if symbols > shape.MostSymbols || distances > shape.MostDistances {
		return codes{}, api.ErrForm
	}
	first, err := d.firstCode(firsts)
	if err != api.OK {
		return codes{}, err
	}
	row, err := d.row(first, symbols+distances)
	if err != api.OK {
		return codes{}, err
	}
	if row[shape.BlockEnd] == 0 {
		return codes{}, api.ErrForm
	}
	return newCodes(row[:symbols], row[symbols:])
}

// firstCode reads the code by which the lengths of the two others are told. An empty one
// isn't asked for here: a row has lengths, and the first of them gets ErrCode of its table.
func (d *stream) firstCode(n int) (*prefix.Table, api.Errno) {
	var lengths [shape.FirstSymbols]int
	order := shape.FirstOrder()
	for _, symbol := range order[:n] {
		lengths[symbol] = int(d.source.Bits(shape.FirstLengthBits))
	}
	if err := d.source.Err(); err != api.OK {
		return nil, err
	}
	return prefix.New(lengths[:])
}

// row reads n lengths by the first code.
func (d *stream) row(first *prefix.Table, n int) ([]int, api.Errno) {
	row := make([]int, 0, n)
	for len(row) < n {
		symbol, err := first.Read(d.source)
		if err != api.OK {
			return nil, err
		}
		if symbol <= api.MaxCode {
			row = append(row, symbol)
			continue
		}
		// Nothing stands ahead, so that it is wrong whatever the bits behind it are.
		if symbol == again && len(row) == 0 {
			return nil, api.ErrForm
		}
		times, err := d.times(symbol)
		if err != api.OK {
			return nil, err
		}
		if times > n-len(row) {
			return nil, api.ErrForm
		}
		length := 0
		if symbol == again {
			length = row[len(row)-1]
		}
		row = append(row, slices.Repeat([]int{length}, times)...)
	}
	return row, api.OK
}

// times reads how often a length is repeated.
func (d *stream) times(symbol int) (int, api.Errno) {
	switch symbol {
	case again:
		return d.above(3, 2)
	case fewZeros:
		return d.above(3, 3)
	}
	return d.above(11, 7)
}
