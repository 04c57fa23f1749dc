package match_test

import (
	"math"
	"math/rand"
	"slices"
	"strings"
	"testing"

	"montage/api"
	"montage/match"
	"montage/token"
)

var levels = []int{0, 1, 2, 3}

// checkTokens holds the tokens of a text at a level against what is promised of all, and answers them.
func checkTokens(t *testing.T, s string, level int) []api.Token {
	t.Helper()
	l, e := match.Tokens(s, level)
	if e != api.OK {
		t.Errorf("Tokens(%s, %d): %d", shown(s), level, e)
		return nil
	}
	for i, x := range l {
		if !token.May(x) || level == 0 && x.Len != 0 {
			t.Errorf("Tokens(%s, %d): token %d is %+v", shown(s), level, i, x)
			return l
		}
	}
	if got, e := token.Expand(l, len(s)); got != s || e != api.OK {
		t.Errorf("Tokens(%s, %d) say %s, %d", shown(s), level, shown(got), e)
	}
	if n := match.Size(l); n != len(s) {
		t.Errorf("Tokens(%s, %d) have %d bytes, want %d", shown(s), level, n, len(s))
	}
	return l
}

func TestTokensOrdinary(t *testing.T) {
	verse := "to be or not to be, that is the question; "
	for _, s := range []string{
		"abcabcab", "hello hello hello hello", "no match", "äöü äöü äöü", "\x00\xff\x00\xff\x00\xff\x00\xff",
		strings.Repeat(verse, 40), strings.Repeat(verse, 40) + strings.Repeat("z", 1000), noise(5, 5000, 3), noise(6, 5000, 26),
	} {
		for _, level := range levels {
			checkTokens(t, s, level)
		}
	}
}

func TestTokensOfNothing(t *testing.T) {
	for _, level := range levels {
		if l := checkTokens(t, "", level); len(l) != 0 {
			t.Errorf("level %d: %+v", level, l)
		}
	}
}

func TestTokensOfShortTexts(t *testing.T) {
	hold := func(s string) {
		for _, level := range levels {
			checkTokens(t, s, level)
		}
	}
	eachText("ab", 11, hold)
	eachText("abc", 7, hold)
	eachText("\x00\x01a\xff", 5, hold)
}

func TestTokensAtLevel0(t *testing.T) {
	for _, s := range []string{"a", "aaaaaaaa", "abcabcabc", strings.Repeat("ab", 1000), noise(7, 3000, 2)} {
		l := checkTokens(t, s, 0)
		if len(l) != len(s) {
			t.Errorf("%s: %d tokens", shown(s), len(l))
			continue
		}
		for i, x := range l {
			if x != (api.Token{Byte: s[i]}) {
				t.Errorf("%s: token %d is %+v", shown(s), i, x)
			}
		}
	}
}

// checkSameByte holds how many tokens a text of one byte has from level 1 on.
func checkSameByte(t *testing.T, b byte, n int) {
	t.Helper()
	s := strings.Repeat(string([]byte{b}), n)
	for _, level := range levels {
		l := checkTokens(t, s, level)
		if level > 0 && len(l) > 4+n/258 {
			t.Errorf("%d times the byte %d at level %d: %d tokens", n, b, level, len(l))
		}
	}
}

func TestTokensOfOneByteAgainAndAgain(t *testing.T) {
	for n := range 1200 {
		checkSameByte(t, 'a', n)
	}
	for _, step := range []int{258, 259} {
		for _, times := range []int{5, 20, 127, 128, 254} {
			for n := step*times - 4; n <= step*times+4; n++ {
				checkSameByte(t, 0, n)
			}
		}
	}
	for b := range 256 {
		for _, n := range []int{1, 2, 3, 4, 5, 258, 259, 260, 261, 262, 517} {
			checkSameByte(t, byte(b), n)
		}
	}
	for _, n := range []int{32767, 32768, 32769, 65536, 1 << 20, api.MaxBytes - 1, api.MaxBytes} {
		checkSameByte(t, 255, n)
	}
}

func TestTokensAroundTheWindow(t *testing.T) {
	for _, distance := range []int{32766, 32767, 32768, 32769, 32770} {
		s := "wxyz" + strings.Repeat(".", distance-4) + "wxyz"
		for _, level := range levels {
			checkTokens(t, s, level)
			checkTokens(t, "--"+s+s, level)
		}
	}
	// Each byte has come just so far back, and nearer ones are rare.
	for _, distance := range []int{32767, 32768, 32769} {
		s := strings.Repeat(noise(8, distance, 26), 3)
		for _, level := range levels {
			checkTokens(t, s, level)
		}
	}
}

func TestTokensOfTextsByChance(t *testing.T) {
	choice := rand.New(rand.NewSource(9))
	for range 3000 {
		s := noise(choice.Int63(), choice.Intn(400), 1+choice.Intn(6))
		if piece := choice.Intn(len(s) + 1); choice.Intn(2) == 0 {
			s += s + s[:piece]
		}
		for _, level := range levels {
			checkTokens(t, s, level)
		}
	}
}

func TestTokensTakeMatchesFromLevel1On(t *testing.T) {
	for _, s := range []string{strings.Repeat("abc", 100), strings.Repeat(noise(10, 500, 26), 4), noise(11, 5000, 2)} {
		for _, level := range levels[1:] {
			if l := checkTokens(t, s, level); len(l) > len(s)/2 {
				t.Errorf("%s: %d tokens at level %d", shown(s), len(l), level)
			}
		}
	}
}

func TestTokensOfEachLevelsOwnWay(t *testing.T) {
	for _, c := range []struct {
		s     string
		level int
		tail  []api.Token
	}{
		// The nearest place of three bytes has the shorter match.
		{"abcde-abc.abcde", 1, []api.Token{{Byte: '.'}, {Len: 3, Back: 4}, {Byte: 'd'}, {Byte: 'e'}}},
		{"abcde-abc.abcde", 2, []api.Token{{Byte: '.'}, {Len: 5, Back: 10}}},
		{"abcde-abc.abcde", 3, []api.Token{{Byte: '.'}, {Len: 5, Back: 10}}},
		// The next place has the longer match.
		{"abc-bcdefg.abcdefg", 2, []api.Token{{Byte: '.'}, {Len: 3, Back: 11}, {Len: 4, Back: 8}}},
		{"abc-bcdefg.abcdefg", 3, []api.Token{{Byte: '.'}, {Byte: 'a'}, {Len: 6, Back: 8}}},
	} {
		l := checkTokens(t, c.s, c.level)
		if n := len(l) - len(c.tail); n < 0 || !slices.Equal(l[n:], c.tail) {
			t.Errorf("%s at level %d: %+v", c.s, c.level, l)
		}
	}
}

// refused holds that there are no tokens, but an error.
func refused(t *testing.T, s string, level int, want api.Errno) {
	t.Helper()
	if l, e := match.Tokens(s, level); len(l) != 0 || e != want {
		t.Errorf("Tokens(%s, %d): %d tokens, %d; want none, %d", shown(s), level, len(l), e, want)
	}
}

var noLevels = []int{math.MinInt, math.MinInt + 1, -1 << 32, -4, -3, -2, -1, 4, 5, 6, 256, 1 << 32, 1<<32 + 1, math.MaxInt - 1, math.MaxInt}

func TestTokensOfNoLevel(t *testing.T) {
	for _, level := range noLevels {
		refused(t, "", level, api.ErrArg)
		refused(t, "a", level, api.ErrArg)
		refused(t, "aaaaaaaa", level, api.ErrArg)
	}
}

func TestTokensOfAsManyBytesAsMayBe(t *testing.T) {
	for _, s := range []string{
		noise(12, api.MaxBytes, 2),
		noise(13, api.MaxBytes, 26),
		strings.Repeat("ab", api.MaxBytes/2),
		strings.Repeat(noise(14, 32768, 26), api.MaxBytes/32768),
	} {
		for _, level := range levels {
			checkTokens(t, s, level)
		}
	}
}

func TestTokensOfMoreBytesThanMayBe(t *testing.T) {
	for _, n := range []int{api.MaxBytes + 1, api.MaxBytes + 2, 2 * api.MaxBytes} {
		s := strings.Repeat("a", n)
		for _, level := range levels {
			refused(t, s, level, api.ErrLimit)
		}
		// Of both errors the level's is told.
		for _, level := range noLevels {
			refused(t, s, level, api.ErrArg)
		}
	}
}

func TestTokensAreTheCallersOwn(t *testing.T) {
	s := strings.Repeat("abcab", 30)
	for _, level := range levels {
		first := checkTokens(t, s, level)
		kept := slices.Clone(first)
		for i := range first {
			first[i] = api.Token{Byte: 'z'}
		}
		if again := checkTokens(t, s, level); !slices.Equal(again, kept) {
			t.Errorf("level %d: %+v, and now %+v", level, kept, again)
		}
	}
}
