// Package shape holds what those that read blocks of streams and those that write them
// agree on: the blocks' kinds, how many bits their parts have, and what isn't told in them.
package shape

import "slices"

// The kinds of blocks. A number of KindBits has room for one more, which is none.
const (
	StoredKind = 0
	PlainKind  = 1
	OwnKind    = 2
)

const (
	LastBits   = 1  // of whether a block is the last one
	KindBits   = 2  // of a block's kind
	StoredBits = 16 // of how many bytes a block of kind 0 has
	BlockEnd   = 256
)

// MostStored is how many bytes a block of kind 0 says at most.
const MostStored = 1<<StoredBits - 1

// How many bits the three numbers have with which a block of kind 2 begins, and what
// each of them is less than what it tells.
const (
	SymbolsBits    = 5
	DistancesBits  = 5
	FirstsBits     = 4
	LeastSymbols   = 257
	LeastDistances = 1
	LeastFirsts    = 4
)

// How many lengths such a block may tell, though the numbers have room for more.
const (
	MostSymbols   = 286
	MostDistances = 30
)

const (
	FirstSymbols    = 19 // of the first code
	FirstLengthBits = 3  // of each of its lengths
)

// FirstOrder answers the first code's symbols, in the order in which their lengths stand.
func FirstOrder() [FirstSymbols]int {
	return [...]int{16, 17, 18, 0, 8, 7, 9, 6, 10, 5, 11, 4, 12, 3, 13, 2, 14, 1, 15}
}

// PlainSymbols answers the lengths of symbols in blocks of kind 1.
func PlainSymbols() []int {
	return slices.Concat(
		slices.Repeat([]int{8}, 144),
		slices.Repeat([]int{9}, 112),
		slices.Repeat([]int{7}, 24),
		slices.Repeat([]int{8}, 8),
	)
}

// PlainDistances answers the lengths of distances in blocks of kind 1.
func PlainDistances() []int {
	return slices.Repeat([]int{5}, 32)
}
