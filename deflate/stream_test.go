package deflate_test

import (
	"math/rand"
	"slices"
	"strings"
	"testing"

	"montage/api"
	"montage/bits"
	"montage/block"
	"montage/deflate"
	"montage/inflate"
	"montage/match"
)

const verse = "to be or not to be, that is the question; "

func TestStreamOrdinary(t *testing.T) {
	for _, s := range []string{
		"hello hello hello", "no match", "äöü äöü äöü", "\x00\xff\x00\xff\x00\xff",
		verse, strings.Repeat(verse, 40), strings.Repeat(verse, 40) + noise(1, 3000, 256) + strings.Repeat(verse, 40),
	} {
		check(t, s)
	}
}

func TestStreamOfNothing(t *testing.T) {
	for level, z := range check(t, "") {
		if len(z) > 5 {
			t.Errorf("level %d: %d bytes", level, len(z))
		}
	}
}

func TestStreamOfOneByte(t *testing.T) {
	for b := range 256 {
		for level, z := range check(t, string([]byte{byte(b)})) {
			if len(z) > 6 {
				t.Errorf("the byte %d at level %d: %d bytes", b, level, len(z))
			}
		}
	}
}

func TestStreamOfShortTexts(t *testing.T) {
	texts := []string{""}
	for range 8 {
		var longer []string
		for _, s := range texts {
			check(t, s)
			longer = append(longer, s+"a", s+"b")
		}
		texts = longer
	}
}

func TestStreamOfOneByteAgainAndAgain(t *testing.T) {
	for _, b := range []string{"a", "\x00", "\xff"} {
		for _, n := range []int{2, 3, 4, 5, 6, 7, 8, 9, 257, 258, 259, 260, 516, 517, 1000, 32767, 32768, 32769, 200000} {
			check(t, strings.Repeat(b, n))
		}
	}
}

func TestStreamOfAFewBytesAgainAndAgain(t *testing.T) {
	for _, s := range []string{"ab", "abc", "\x00\xff", "abcabd", noise(2, 10, 256), noise(3, 300, 256), verse} {
		for _, n := range []int{5, 50, 500, 5000, 50000} {
			check(t, cut(s, n))
		}
	}
}

func TestStreamOfAllBytes(t *testing.T) {
	all := []byte(allBytes())
	check(t, string(all))
	check(t, cut(string(all), 1000))
	check(t, cut(string(all), 100000))
	slices.Reverse(all)
	check(t, string(all))
	for i := range all {
		all[i] ^= byte(i * i)
	}
	check(t, string(all))
}

func TestStreamOfTextsByChance(t *testing.T) {
	choice := rand.New(rand.NewSource(12))
	for range 400 {
		kinds := []int{2, 3, 10, 100, 256}[choice.Intn(5)]
		s := noise(choice.Int63(), choice.Intn(1000), kinds)
		if choice.Intn(2) == 0 {
			s += s[choice.Intn(len(s)+1):] + s
		}
		check(t, s)
	}
	for _, kinds := range []int{2, 10, 100, 200, 255, 256} {
		for range 3 {
			check(t, noise(choice.Int63(), 1000+choice.Intn(100000), kinds))
		}
	}
}

func TestStreamWithMatchesAcrossBlocks(t *testing.T) {
	// What comes again stands behind so many tokens that it is in another block.
	ahead := noise(4, 20000, 256)
	for _, n := range []int{10, 5000, 12000, 12700, 12768, 12800} {
		s := ahead + counted(n) + ahead
		for level, z := range check(t, s) {
			if level > 0 && n < 12768 && len(z) > len(ahead)+n+2000 {
				t.Errorf("%d bytes between, level %d: %d bytes", n, level, len(z))
			}
		}
	}
}

func TestStreamOfAboutSoManyTokens(t *testing.T) {
	// There is no match: so each byte is a token, at every level.
	for _, n := range []int{1 << 10, 1 << 12, 1 << 13, 1 << 14, 1 << 15, 3 << 14, 1 << 16} {
		for _, more := range []int{-1, 0, 1} {
			check(t, counted(n+more))
		}
	}
}

func TestStreamIsTheSameAgain(t *testing.T) {
	for _, s := range []string{"", "a", strings.Repeat(verse, 2000), noise(5, 40000, 200)} {
		for _, level := range levels {
			first, e := deflate.Stream(s, level)
			deflate.Best(noise(6, 1000, 3))
			second, f := deflate.Stream(s, level)
			if first != second || e != f {
				t.Errorf("Stream(%s, %d) answers another one", shown(s), level)
			}
		}
	}
}

func TestStreamPacks(t *testing.T) {
	for _, c := range []struct {
		s    string
		most int
	}{
		{strings.Repeat("a", 1000), 20},
		{strings.Repeat("abc", 50000), 700},
		{strings.Repeat("\x00", api.MaxBytes), 5000},
		{strings.Repeat(verse, 1000), 400},
		{noise(7, 100000, 2), 21000},
		{noise(8, 100000, 16), 60000},
		{noise(9, 100000, 128), 89000},
		// What can't be packed is among what can.
		{strings.Repeat(verse, 1000) + noise(10, 100000, 256) + strings.Repeat(verse, 1000), 101500},
	} {
		for _, level := range levels[1:] {
			if z := checkStream(t, c.s, level); len(z) > c.most {
				t.Errorf("Stream(%s, %d): %d bytes, more than %d", shown(c.s), level, len(z), c.most)
			}
		}
	}
}

func TestStreamTakesAllKindsOfBlocks(t *testing.T) {
	for _, c := range []struct {
		s    string
		kind int
	}{
		{"", 1}, {"a", 1}, {"hello hello hello", 1}, {strings.Repeat("a", 100), 1},
		{noise(11, 1000, 256), 0}, {noise(12, 50000, 256), 0},
		{noise(13, 1000, 2), 2}, {noise(14, 50000, 100), 2},
	} {
		for _, level := range levels[1:] {
			z := checkStream(t, c.s, level)
			if kinds, e := inflate.Blocks(z, len(c.s)); !slices.Contains(kinds, c.kind) || e != api.OK {
				t.Errorf("Stream(%s, %d) has kinds %v, %d; want %d", shown(c.s), level, kinds, e, c.kind)
			}
		}
	}
	mixed := noise(15, 70000, 256) + strings.Repeat(verse, 3000) + counted(70000) + noise(16, 70000, 256) + verse
	kinds, _ := inflate.Blocks(checkStream(t, mixed, 3), len(mixed))
	if !slices.Contains(kinds, 0) || !slices.Contains(kinds, 2) {
		t.Errorf("a mixed text has kinds %v", kinds)
	}
}

// wholeBytes answers how many bytes a stream has of one block by a call.
func wholeBytes(write func(w *bits.Writer)) int {
	w := bits.NewWriter()
	write(w)
	return len(w.Text())
}

func TestStreamOfOneBlockIsTheShortest(t *testing.T) {
	choice := rand.New(rand.NewSource(13))
	for range 600 {
		s := noise(choice.Int63(), choice.Intn(400), 1+choice.Intn(256))
		for _, level := range levels[1:] {
			l, _ := match.Tokens(s, level)
			want := min(
				wholeBytes(func(w *bits.Writer) { block.Stored(w, s, true) }),
				wholeBytes(func(w *bits.Writer) { block.Plain(w, l, true) }),
				wholeBytes(func(w *bits.Writer) { block.Own(w, l, true) }),
			)
			if z := checkStream(t, s, level); len(z) != want {
				t.Errorf("Stream(%s, %d) has %d bytes, want %d", shown(s), level, len(z), want)
			}
		}
	}
}
