package token_test

import (
	"math"
	"math/rand"
	"slices"
	"strings"
	"testing"

	"montage/api"
	"montage/token"
)

// bytesOf answers a text's bytes as tokens.
func bytesOf(s string) []api.Token {
	l := make([]api.Token, 0, len(s))
	for i := range len(s) {
		l = append(l, api.Token{Byte: s[i]})
	}
	return l
}

// copied answers a token that copies.
func copied(n, back int) api.Token {
	return api.Token{Len: n, Back: back}
}

// expanded says by the chapter's words what tokens say.
func expanded(l []api.Token, most int) (string, api.Errno) {
	said := ""
	for _, t := range l {
		if !mayBe(t) {
			return "", api.ErrArg
		}
		if t.Back > len(said) {
			return "", api.ErrForm
		}
		if t.Len == 0 {
			said += string([]byte{t.Byte})
		}
		for range t.Len {
			said += said[len(said)-t.Back : len(said)-t.Back+1]
		}
		if len(said) > most {
			return "", api.ErrLimit
		}
	}
	return said, api.OK
}

func checkExpand(t *testing.T, l []api.Token, most int, want string, e api.Errno) {
	t.Helper()
	if s, got := token.Expand(l, most); s != want || got != e {
		t.Errorf("Expand(%+v, %d) = %q, %d; want %q, %d", l, most, s, got, want, e)
	}
}

func TestExpandOrdinary(t *testing.T) {
	for _, c := range []struct {
		l    []api.Token
		want string
	}{
		{[]api.Token{{Byte: 'a'}, copied(3, 1)}, "aaaa"}, // the chapter's example
		{bytesOf("abc"), "abc"},
		{bytesOf("\x00\xff\x00"), "\x00\xff\x00"},
		{bytesOf("ä\n"), "ä\n"},
		{append(bytesOf("abc"), copied(3, 3)), "abcabc"},
		{append(bytesOf("abcdef"), copied(3, 6)), "abcdefabc"},
		{append(bytesOf("abcdef"), copied(4, 5)), "abcdefbcde"},
		{append(bytesOf("ab"), copied(7, 2)), "ababababa"},
		{append(bytesOf("abc"), copied(4, 3)), "abcabca"},
		{append(bytesOf("abc"), copied(3, 2), copied(3, 6)), "abcbcbabc"},
		{append(bytesOf("x"), copied(258, 1)), strings.Repeat("x", 259)},
		{append(append(bytesOf("x"), copied(3, 1)), bytesOf("y")...), "xxxxy"},
	} {
		checkExpand(t, c.l, 1000, c.want, api.OK)
	}
}

func TestExpandOfNothing(t *testing.T) {
	for _, most := range numbers {
		checkExpand(t, nil, most, "", api.OK)
		checkExpand(t, []api.Token{}, most, "", api.OK)
	}
}

func TestExpandCopiesWhatItLaysDown(t *testing.T) {
	base := "0123456789"
	for back := 1; back <= len(base); back++ {
		for n := api.MinMatch; n <= api.MaxMatch; n++ {
			end := base[len(base)-back:]
			want := base + strings.Repeat(end, n/back+1)[:n]
			checkExpand(t, append(bytesOf(base), copied(n, back)), 1000, want, api.OK)
		}
	}
}

func TestExpandAsFarBackAsThereAreBytes(t *testing.T) {
	for _, n := range []int{1, 2, 3, 4, 257, 258, 259, 1000, 32767, 32768} {
		s := strings.Repeat("abcdefg", n/7+1)[:n]
		want := s + (s + s + s)[:3]
		checkExpand(t, append(bytesOf(s), copied(3, n)), math.MaxInt, want, api.OK)
		if n < api.MaxWindow {
			checkExpand(t, append(bytesOf(s), copied(3, n+1)), math.MaxInt, "", api.ErrForm)
		}
	}
	checkExpand(t, []api.Token{copied(3, 1)}, 10, "", api.ErrForm)
	checkExpand(t, []api.Token{copied(258, 32768)}, 1000, "", api.ErrForm)
	far := bytesOf("abc" + strings.Repeat("-", 32766))
	checkExpand(t, append(far, copied(4, 32768)), math.MaxInt, "abc"+strings.Repeat("-", 32766)+"bc--", api.OK)
	checkExpand(t, append(far, copied(4, 32769)), math.MaxInt, "", api.ErrArg)
}

func TestExpandTakesAsManyBytesAsMayBe(t *testing.T) {
	for _, c := range []struct {
		l    []api.Token
		want string
	}{
		{bytesOf("a"), "a"},
		{bytesOf("abcd"), "abcd"},
		{append(bytesOf("a"), copied(3, 1)), "aaaa"},
		{append(bytesOf("ab"), copied(258, 2)), strings.Repeat("ab", 130)},
		{append(bytesOf("a"), copied(3, 1), api.Token{Byte: 'z'}), "aaaaz"},
	} {
		n := len(c.want)
		for _, most := range []int{n, n + 1, math.MaxInt} {
			checkExpand(t, c.l, most, c.want, api.OK)
		}
		for _, most := range []int{n - 1, 0, -1, -n, math.MinInt} {
			checkExpand(t, c.l, most, "", api.ErrLimit)
		}
	}
}

func TestExpandFirstErrorOfAToken(t *testing.T) {
	// It may not be, looks too far back, and says too much.
	for _, bad := range []api.Token{
		{Len: 3, Back: 32769}, {Len: 259, Back: 9}, {Len: 2, Back: 9}, {Len: 1, Back: 9}, {Len: -1, Back: 9},
		{Byte: 1, Len: 3, Back: 9}, {Back: 9}, {Back: -1}, {Len: 3}, {Len: 3, Back: -1},
		{Len: math.MaxInt, Back: math.MaxInt}, {Len: math.MinInt, Back: math.MinInt}, {Byte: 'a', Back: math.MaxInt},
	} {
		for _, most := range []int{-1, 0, 1, 100} {
			checkExpand(t, []api.Token{bad}, most, "", api.ErrArg)
		}
		checkExpand(t, append(bytesOf("ab"), bad), 2, "", api.ErrArg)
	}
	// It looks too far back, and says too much.
	checkExpand(t, append(bytesOf("ab"), copied(3, 3)), 2, "", api.ErrForm)
	checkExpand(t, []api.Token{copied(3, 1)}, -1, "", api.ErrForm)
}

func TestExpandFirstTokenThatIsWrong(t *testing.T) {
	bad, far, much := api.Token{Len: 2, Back: 1}, copied(3, 100), copied(200, 1)
	for _, c := range []struct {
		l []api.Token
		e api.Errno
	}{
		{[]api.Token{{Byte: 'a'}, bad, far, much}, api.ErrArg},
		{[]api.Token{{Byte: 'a'}, bad, much, far}, api.ErrArg},
		{[]api.Token{{Byte: 'a'}, far, bad, much}, api.ErrForm},
		{[]api.Token{{Byte: 'a'}, far, much, bad}, api.ErrForm},
		{[]api.Token{{Byte: 'a'}, much, bad, far}, api.ErrLimit},
		{[]api.Token{{Byte: 'a'}, much, far, bad}, api.ErrLimit},
	} {
		checkExpand(t, c.l, 50, "", c.e)
	}
	// A byte that is one too many stands ahead of what may not be.
	checkExpand(t, append(bytesOf("abc"), bad), 2, "", api.ErrLimit)
	checkExpand(t, append(bytesOf("abc"), bad), 3, "", api.ErrArg)
	checkExpand(t, []api.Token{{Byte: 'a'}, bad}, 0, "", api.ErrLimit)
}

func TestExpandByTheWords(t *testing.T) {
	choice := rand.New(rand.NewSource(7))
	for range 20000 {
		var l []api.Token
		for range choice.Intn(12) {
			switch choice.Intn(8) {
			case 0, 1, 2:
				l = append(l, copied(3+choice.Intn(6), 1+choice.Intn(6)))
			case 3:
				if choice.Intn(6) == 0 {
					l = append(l, api.Token{Byte: byte(choice.Intn(2)), Len: choice.Intn(5) - 1, Back: choice.Intn(5) - 1})
				}
			default:
				l = append(l, api.Token{Byte: byte('a' + choice.Intn(3))})
			}
		}
		most := choice.Intn(40) - 1
		want, e := expanded(l, most)
		checkExpand(t, l, most, want, e)
	}
}

func TestExpandLeavesTokensAsTheyAre(t *testing.T) {
	l := append(bytesOf("abc"), copied(5, 2), copied(3, 8))
	kept := slices.Clone(l)
	first, _ := token.Expand(l, 100)
	if !slices.Equal(l, kept) {
		t.Errorf("the tokens are now %+v", l)
	}
	l[0].Byte = 'z'
	if first != "abcbcbcbabc" {
		t.Errorf("what was said is now %q", first)
	}
	checkExpand(t, kept, 100, first, api.OK)
}

func TestExpandMuch(t *testing.T) {
	l := []api.Token{{Byte: 'm'}}
	for range 20000 {
		l = append(l, copied(258, 1))
	}
	n := 1 + 20000*258
	s, e := token.Expand(l, n)
	if e != api.OK || len(s) != n || strings.Count(s, "m") != n {
		t.Errorf("%d bytes, %d", len(s), e)
	}
	checkExpand(t, l, n-1, "", api.ErrLimit)
}
