package block_test

import (
	"compress/flate"
	"io"
	"math/rand"
	"slices"
	"strings"
	"testing"

	"montage/api"
	"montage/bits"
	"montage/block"
	"montage/inflate"
	"montage/limit"
	"montage/runs"
)

// often answers tokens, each as often as its count says, one of each by turns.
func often(l []api.Token, counts []int) []api.Token {
	var all []api.Token
	left := slices.Clone(counts)
	for range slices.Max(counts) {
		for i, t := range l {
			if left[i] > 0 {
				left[i]--
				all = append(all, t)
			}
		}
	}
	return all
}

// growing answers counts of which each is the sum of the two ahead: of their codes, however
// long they come to be, each has one bit more than the next.
func growing(n int) []int {
	counts := []int{1, 1}
	for len(counts) < n {
		counts = append(counts, counts[len(counts)-1]+counts[len(counts)-2])
	}
	return counts
}

func TestCodesThatWouldBeTooLong(t *testing.T) {
	// 18 counts, or 19 with the block's end, come to codes of more than 15 bits.
	counts := growing(18)
	if free, _ := limit.Free(counts); slices.Max(free) <= 15 {
		t.Fatalf("the test's counts ask for codes of %d bits alone", slices.Max(free))
	}
	check(t, "", often(bytesOf(allBytes()[:18]), counts))
	var backs, lengths []api.Token
	for i, n := range edgeDistances() {
		if i%2 == 0 && len(backs) < len(counts) {
			backs = append(backs, api.Token{Len: 3, Back: n})
		}
	}
	for i, n := range edgeLengths() {
		if i%2 == 0 && len(lengths) < len(counts) {
			lengths = append(lengths, api.Token{Len: n, Back: 1})
		}
	}
	checkAt(t, window(), often(backs, counts), 1)
	checkAt(t, "a", often(lengths, counts), 6)
}

// unevenRow answers lengths of symbols 0 to 256 that make a full code, and come so that the
// code by which their row is told would be longer than 7 bits.
func unevenRow() []int {
	var others []int
	for _, c := range []struct{ length, times int }{{3, 1}, {4, 2}, {5, 4}, {7, 8}, {9, 16}, {11, 32}, {13, 64}} {
		others = append(others, slices.Repeat([]int{c.length}, c.times)...)
	}
	// Between two others stands 8, so that nothing stands there four times.
	row := []int{8, 8, others[0], 8, 8, others[1], 8, 8, others[2]}
	for _, length := range others[3:] {
		row = append(row, 8, length)
	}
	return row
}

func TestAFirstCodeThatWouldBeTooLong(t *testing.T) {
	row := unevenRow()
	symbols, _ := runs.Pack(append(slices.Clone(row), 0)) // there are no distances
	counts := runs.Counts(symbols)
	if free, _ := limit.Free(counts[:]); len(row) != 257 || slices.Max(free) <= 7 {
		t.Fatalf("the test's %d lengths ask for a first code of %d bits alone", len(row), slices.Max(free))
	}
	// The block's end comes once, and so has the greatest length.
	times := make([]int, 256)
	for symbol := range times {
		times[symbol] = 1 << (row[256] - row[symbol])
	}
	check(t, "", often(bytesOf(allBytes()), times))
}

func TestMoreOfASymbolThanLayer6Takes(t *testing.T) {
	for i, n := range []int{1<<20 - 1, 1 << 20, 1<<20 + 1, 1 << 22} {
		for _, rare := range [][]api.Token{nil, {{Byte: 'b'}}} {
			l := append(slices.Repeat([]api.Token{{Byte: 'a'}}, n-len(rare)), rare...)
			checkLong(t, l, strings.Repeat("a", n-len(rare))+strings.Repeat("b", len(rare)), i%2 == 0)
		}
	}
}

// checkLong is check of tokens that are many: the words aren't asked.
func checkLong(t *testing.T, l []api.Token, said string, last bool) {
	t.Helper()
	for _, c := range writers() {
		s := &stream{w: bits.NewWriter()}
		if e := c.write(s.w, l, last); e != api.OK {
			t.Errorf("%s of %d tokens: %d", c.name, len(l), e)
		}
		if n, e := c.size(l); n != s.w.Len() || e != api.OK {
			t.Errorf("%s of %d tokens writes %d bits, by Sizes %d, %d", c.name, len(l), s.w.Len(), n, e)
		}
		s.add(said, c.kind)
		s.ended(last)
		s.check(t)
	}
}

func TestMoreMatchesThanLayer6Takes(t *testing.T) {
	// What they say is more than layer 8 reads: so they are held against Sizes alone.
	l := slices.Repeat([]api.Token{{Len: 5, Back: 300}}, 1<<20+1)
	l = append(l, api.Token{Byte: 'a'}, api.Token{Len: 258, Back: 32768})
	for _, c := range writers() {
		w := bits.NewWriter()
		if e := c.write(w, l, true); e != api.OK {
			t.Errorf("%s: %d", c.name, e)
		}
		if n, e := c.size(l); n != w.Len() || e != api.OK || n < len(l) {
			t.Errorf("%s writes %d bits, by Sizes %d, %d", c.name, w.Len(), n, e)
		}
	}
}

func TestOwnCodesCostNoMoreThanThoseOfAllBlocks(t *testing.T) {
	// Behind its kind a block has 14 bits, 19 lengths of 3 bits, and 316 lengths of 7 bits at most.
	const mostAhead = 14 + 19*3 + 316*7
	choice := rand.New(rand.NewSource(2))
	for range 300 {
		l := byChance(choice, choice.Intn(2000), 32768)
		if plain, own, _ := block.Sizes(l); own > plain+mostAhead {
			t.Errorf("Own of %d tokens has %d bits, Plain %d", len(l), own, plain)
		}
	}
	if plain, own, _ := block.Sizes(bytesOf(strings.Repeat("aaaaaaab", 1000))); own >= plain/4 {
		t.Errorf("Own has %d bits, Plain %d", own, plain)
	}
}

func TestAnotherReaderReadsOwn(t *testing.T) {
	choice := rand.New(rand.NewSource(3))
	rows := [][]api.Token{
		nil, bytesOf("a"), bytesOf("aaaaaaaa"), bytesOf(allBytes()), bytesOf(letters(5000)),
		{{Byte: 'a'}, {Len: 258, Back: 1}}, {{Byte: 'a'}, {Len: 3, Back: 1}, {Byte: 'b'}, {Len: 40, Back: 4}},
	}
	for range 300 {
		rows = append(rows, byChance(choice, choice.Intn(600), 0))
	}
	for _, l := range rows {
		w := bits.NewWriter()
		block.Own(w, l, true)
		want, _ := inflate.All(w.Text(), 1<<22)
		got, err := io.ReadAll(flate.NewReader(strings.NewReader(w.Text())))
		if string(got) != want || err != nil {
			t.Errorf("another reader reads %d bytes of %d, %v", len(got), len(want), err)
		}
	}
}
