package block

import (
	"slices"

	"montage/api"
	"montage/bits"
	"montage/limit"
	"montage/prefix"
	"montage/runs"
	"montage/shape"
)

const (
	mostCount       = 1 << 20 // that layer 6 takes
	mostFirstLength = 1<<shape.FirstLengthBits - 1
)

// lengths are what a block of kind 2 tells ahead of its symbols: those of its codes, as a
// row, and those of the first code, by which the row is told.
type lengths struct {
	symbols, distances []int
	row                []api.Run
	firsts             []int
}

// newLengths answers lengths of codes that are as short as may be.
func newLengths(t tally) lengths {
	symbols := trimmed(shortest(t.symbols[:], api.MaxCode), shape.LeastSymbols)
	distances := trimmed(shortest(t.distances[:], api.MaxCode), shape.LeastDistances)
	// The row is short, and of lengths alone: it is never refused.
	row, _ := runs.Pack(slices.Concat(symbols, distances))
	counts := runs.Counts(row)
	return lengths{symbols, distances, row, shortest(counts[:], mostFirstLength)}
}

// codes answers the codes of these lengths.
func (l lengths) codes() codes {
	return newCodes(l.symbols, l.distances)
}

// write writes the three numbers, the first code's lengths, and the row by that code.
func (l lengths) write(w *bits.Writer) {
	told := trimmed(inFirstOrder(l.firsts), shape.LeastFirsts)
	w.Put(uint32(len(l.symbols)-shape.LeastSymbols), shape.SymbolsBits)
	w.Put(uint32(len(l.distances)-shape.LeastDistances), shape.DistancesBits)
	w.Put(uint32(len(told)-shape.LeastFirsts), shape.FirstsBits)
	for _, n := range told {
		w.Put(uint32(n), shape.FirstLengthBits)
	}
	// A row of so many lengths, 256's among them, comes to two symbols at least: so the
	// first code is a full one, and no reader refuses it.
	first, _ := prefix.New(l.firsts)
	for _, r := range l.row {
		first.Write(w, r.Symbol)
		w.Put(uint32(r.More), runs.Bits(r.Symbol))
	}
}

// size answers how many bits write writes: they are few, and so just written.
func (l lengths) size() int {
	w := bits.NewWriter()
	l.write(w)
	return w.Len()
}

// shortest answers lengths that cost as little as may be. There are never more symbols
// than codes of so many bits, nor greater counts than may be: no error comes of them.
func shortest(counts []int, most int) []int {
	l, _ := limit.Lengths(lowered(counts), most)
	return l
}

// lowered answers counts that layer 6 takes: all halved, till none is too great. What
// comes at all must have a code: so halves are rounded up.
func lowered(counts []int) []int {
	l := slices.Clone(counts)
	for slices.Max(l) > mostCount {
		for i, n := range l {
			l[i] = n - n/2
		}
	}
	return l
}

// trimmed answers a row without the zeros at its end, but no shorter than least.
func trimmed(row []int, least int) []int {
	n := len(row)
	for n > least && row[n-1] == 0 {
		n--
	}
	return row[:n]
}

// inFirstOrder answers the first code's lengths in the order in which they are told.
func inFirstOrder(firsts []int) []int {
	l := make([]int, 0, len(firsts))
	for _, symbol := range shape.FirstOrder() {
		l = append(l, firsts[symbol])
	}
	return l
}
