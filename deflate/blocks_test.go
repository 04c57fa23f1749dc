package deflate

import (
	"math/rand"
	"slices"
	"strings"
	"testing"

	"montage/api"
	"montage/bits"
	"montage/block"
	"montage/inflate"
	"montage/match"
)

// begun answers a writer that stands at a bit of a byte, behind blocks of kind 1, what they
// say, and how many they are.
func begun(skew int) (*bits.Writer, string, int) {
	w := bits.NewWriter()
	said, blocks := "", 0
	if skew%2 == 1 {
		// With a byte of 9 bits the block has an odd number of them.
		block.Plain(w, []api.Token{{Byte: 200}}, false)
		said, blocks = "\xc8", 1
	}
	for ; w.Len()%8 != skew; blocks++ {
		block.Plain(w, nil, false)
	}
	return w, said, blocks
}

// sizes answers how many bits the kinds of blocks take behind a bit of a byte.
func sizes(t *testing.T, skew int, s string, tokens []api.Token) []int {
	t.Helper()
	var l []int
	for _, write := range []func(w *bits.Writer) api.Errno{
		func(w *bits.Writer) api.Errno { return block.Stored(w, s, false) },
		func(w *bits.Writer) api.Errno { return block.Plain(w, tokens, false) },
		func(w *bits.Writer) api.Errno { return block.Own(w, tokens, false) },
	} {
		w, _, _ := begun(skew)
		from := w.Len()
		if e := write(w); e != api.OK {
			t.Fatalf("a block of %d bytes: %d", len(s), e)
		}
		l = append(l, w.Len()-from)
	}
	return l
}

// checkShortest holds that a block of the shortest kind is written, and answers its kind.
func checkShortest(t *testing.T, skew int, s string, level int, last bool) int {
	t.Helper()
	tokens, _ := match.Tokens(s, level)
	l := sizes(t, skew, s, tokens)
	w, ahead, blocks := begun(skew)
	from := w.Len()
	writeShortest(w, s, tokens, last)
	if n := w.Len() - from; n != slices.Min(l) {
		t.Errorf("%q behind %d bits takes %d bits, of the kinds %v", s, skew, n, l)
	}
	if !last {
		block.Plain(w, nil, true)
	}
	if got, e := inflate.All(w.Text(), len(ahead+s)); got != ahead+s || e != api.OK {
		t.Errorf("%q behind %d bits, last %t: layer 8 reads %q, %d", s, skew, last, got, e)
		return -1
	}
	kinds, _ := inflate.Blocks(w.Text(), len(ahead+s))
	if l[kinds[blocks]] != slices.Min(l) {
		t.Errorf("%q behind %d bits has kind %d, of %v", s, skew, kinds[blocks], l)
	}
	return kinds[blocks]
}

func TestShortestKindOfBlock(t *testing.T) {
	choice := rand.New(rand.NewSource(22))
	var came [3][2]int
	for range 300 {
		b := make([]byte, choice.Intn(300))
		letters := 1 + choice.Intn(256)
		for i := range b {
			b[i] = byte(choice.Intn(letters))
		}
		for skew := range 8 {
			came[checkShortest(t, skew, string(b), 1+skew%3, false)][0]++
			came[checkShortest(t, skew, string(b), 1+skew%3, true)][1]++
		}
	}
	for kind, n := range came {
		if n[0] == 0 || n[1] == 0 {
			t.Errorf("kind %d came %d times", kind, n)
		}
	}
}

func TestStoredSize(t *testing.T) {
	for _, n := range []int{0, 1, 65534, 65535, 65536, 131070, 131071} {
		s := strings.Repeat("a", n)
		for skew := range 8 {
			w, ahead, _ := begun(skew)
			from, size := w.Len(), storedSize(w, s)
			if w.Len() != from {
				t.Errorf("%d bytes: storedSize has written", n)
			}
			writeStored(w, s, true)
			if w.Len()-from != size {
				t.Errorf("%d bytes behind %d bits take %d bits, and not %d", n, skew, w.Len()-from, size)
			}
			if got, e := inflate.All(w.Text(), n+1); got != ahead+s || e != api.OK {
				t.Errorf("%d bytes behind %d bits: layer 8 reads %d, %d", n, skew, len(got), e)
			}
		}
	}
}
