package match_test

import (
	"math"
	"math/rand"
	"strconv"
	"strings"
	"testing"

	"montage/match"
)

// isMatch tells by the chapter's words whether there is such a match at a place.
func isMatch(s string, at, length, back int) bool {
	if length < 3 || length > 258 || back < 1 || back > 32768 {
		return false
	}
	from := at - back
	return from >= 0 && at+length <= len(s) && s[from:from+length] == s[at:at+length]
}

// bestOf answers by the chapter's words the longest match, out of every one there is.
func bestOf(s string, at int) (int, int) {
	if at < 0 || at >= len(s) {
		return 0, 0
	}
	for length := min(258, len(s)-at); length >= 3; length-- {
		for back := 1; back <= min(32768, at); back++ {
			if isMatch(s, at, length, back) {
				return length, back
			}
		}
	}
	return 0, 0
}

func checkBest(t *testing.T, s string, at, length, back int) {
	t.Helper()
	if n, b := match.Best(s, at); n != length || b != back {
		t.Errorf("Best(%s, %d) = %d, %d; want %d, %d", shown(s), at, n, b, length, back)
	}
}

// shown answers a text such that it can be told.
func shown(s string) string {
	if len(s) > 80 {
		return strconv.Quote(s[:80]) + ".."
	}
	return strconv.Quote(s)
}

// noise answers n bytes out of so many, from a seed.
func noise(seed int64, n, kinds int) string {
	choice := rand.New(rand.NewSource(seed))
	b := make([]byte, n)
	for i := range b {
		b[i] = byte('a' + choice.Intn(kinds))
	}
	return string(b)
}

// eachText calls f with every text of up to n bytes out of kinds.
func eachText(kinds string, n int, f func(s string)) {
	texts := []string{""}
	for range n + 1 {
		var longer []string
		for _, s := range texts {
			f(s)
			for i := range len(kinds) {
				longer = append(longer, s+kinds[i:i+1])
			}
		}
		texts = longer
	}
}

func TestBestOrdinary(t *testing.T) {
	for _, c := range []struct {
		s                string
		at, length, back int
	}{
		{"abcabcab", 3, 5, 3}, // the chapter's example
		{"abcabcab", 4, 4, 3},
		{"abcabcab", 5, 3, 3},
		{"abcabcab", 6, 0, 0},
		{"abc-abc", 4, 3, 4},
		{"abcd-abcx", 5, 3, 5},
		{"abcde-abcd-abcde", 11, 5, 11}, // longer, though farther
		{"abcd-abcde-abcde", 11, 5, 6},
		{"\x00\x00\x00\xff\x00\x00\x00", 4, 3, 4},
		{"äöüäöü", 6, 6, 6},
	} {
		checkBest(t, c.s, c.at, c.length, c.back)
	}
}

func TestBestOfLengths(t *testing.T) {
	block := noise(1, 600, 26)
	for _, c := range [][2]int{{0, 0}, {1, 0}, {2, 0}, {3, 3}, {4, 4}, {257, 257}, {258, 258}, {259, 258}, {260, 258}, {600, 258}} {
		same, length := c[0], c[1]
		back := 0
		if length > 0 {
			back = same + 1
		}
		// The bytes behind the two differ, or the text ends.
		checkBest(t, block[:same]+"."+block[:same]+"!", same+1, length, back)
		checkBest(t, block[:same]+"."+block[:same], same+1, length, back)
	}
	checkBest(t, "ab.ab", 3, 0, 0)
	checkBest(t, "ab.abc", 3, 0, 0)
}

func TestBestNearestOfTheSameLength(t *testing.T) {
	checkBest(t, "abc.abc,abc", 8, 3, 4)
	checkBest(t, "abcd.abc,abcd,abc", 14, 3, 5)
	checkBest(t, "abcd.abcd,abc,abcd!", 14, 4, 9)
	checkBest(t, "xabcyabczabc", 9, 3, 4)
	// Two that could both be longer than they may: the nearer one, though the farther
	// one goes on for longer.
	block := noise(2, 300, 26)
	s := block + "." + block[:259] + "," + block
	checkBest(t, s, 301+260, 258, 260)
}

func TestBestThatOverlapsItsPlace(t *testing.T) {
	checkBest(t, "aaaaaa", 1, 5, 1)
	checkBest(t, "aaaa", 1, 3, 1)
	checkBest(t, "aaa", 1, 0, 0)
	checkBest(t, "ababababx", 2, 6, 2)
	checkBest(t, "abcabcabcab", 3, 8, 3)
	checkBest(t, strings.Repeat("a", 400), 1, 258, 1)
	checkBest(t, strings.Repeat("a", 400), 100, 258, 1)
	checkBest(t, strings.Repeat("abc", 200), 10, 258, 3)
	for n := 4; n < 300; n++ {
		checkBest(t, strings.Repeat("z", n), 1, min(n-1, 258), 1)
	}
}

func TestBestUpToTheEnd(t *testing.T) {
	checkBest(t, "abcdefg.abcdefg", 8, 7, 8)
	checkBest(t, "abcdefg.abcdefg", 12, 3, 8)
	checkBest(t, "abcdefg.abcdefg", 13, 0, 0)
	checkBest(t, "abcdefg.abcdefg", 14, 0, 0)
	block := noise(3, 300, 26)
	for rest := range 290 {
		want, back := min(rest, 258), 301
		if rest < 3 {
			want, back = 0, 0
		}
		checkBest(t, block+"."+block, 601-rest, want, back)
	}
}

func TestBestAsFarBackAsMayBe(t *testing.T) {
	for _, c := range []struct{ distance, length, back int }{
		{32766, 4, 32766}, {32767, 4, 32767}, {32768, 4, 32768}, {32769, 0, 0}, {32770, 0, 0}, {65536, 0, 0},
	} {
		s := "wxyz" + strings.Repeat(".", c.distance-4) + "wxyz"
		checkBest(t, s, c.distance, c.length, c.back)
		checkBest(t, "--"+s+"!", c.distance+2, c.length, c.back)
	}
	// The longest one is too far back, but a shorter one isn't.
	s := "wxyz" + "." + "wxy" + strings.Repeat(".", 32769-8) + "wxyz"
	checkBest(t, s, 32769, 3, 32764)
	checkBest(t, s[:100]+s[101:], 32768, 4, 32768)
}

func TestBestWithoutAMatch(t *testing.T) {
	s := ""
	for b := range 256 {
		s += string([]byte{byte(b)})
	}
	for at := range len(s) {
		checkBest(t, s, at, 0, 0)
	}
	// Nothing stands ahead of the first place, and too little behind the last ones.
	for _, s := range []string{"a", "aaaa", "abcabc", strings.Repeat("a", 1000)} {
		checkBest(t, s, 0, 0, 0)
		checkBest(t, s, len(s)-1, 0, 0)
		checkBest(t, s, len(s)-2, 0, 0)
	}
}

func TestBestAtNoPlace(t *testing.T) {
	for _, s := range []string{"", "a", "abc", "abcabcab", strings.Repeat("a", 1000)} {
		for _, at := range []int{math.MinInt, math.MinInt + 1, -1 << 32, -32768, -258, -3, -2, -1} {
			checkBest(t, s, at, 0, 0)
		}
		for _, at := range []int{0, 1, 2, 3, 258, 32768, 1 << 32, math.MaxInt - 1000} {
			checkBest(t, s, len(s)+at, 0, 0)
		}
		checkBest(t, s, math.MaxInt, 0, 0)
		checkBest(t, s, math.MaxInt-1, 0, 0)
	}
}

func TestBestOfShortTextsByTheWords(t *testing.T) {
	hold := func(s string) {
		for at := -1; at <= len(s)+1; at++ {
			length, back := bestOf(s, at)
			checkBest(t, s, at, length, back)
		}
	}
	eachText("ab", 11, hold)
	eachText("abc", 7, hold)
}

func TestBestOfLongerTextsByTheWords(t *testing.T) {
	for seed := range int64(40) {
		s := noise(seed, 300, 1+int(seed%5))
		for at := range len(s) {
			length, back := bestOf(s, at)
			checkBest(t, s, at, length, back)
		}
	}
}
