package probe_test

import (
	"slices"
	"testing"
	"unicode/utf8"

	"montage/probe"
)

func TestFormAndFirstOfEachCodePoint(t *testing.T) {
	for code := range 0x110000 {
		n := probe.Shortest(code)
		form := probe.Form(code, n)
		if code >= 0xD800 && code <= 0xDFFF {
			if _, taken := probe.First(form); taken != 0 || utf8.ValidString(form) {
				t.Fatalf("%X begins with a code point", code)
			}
			continue
		}
		if form != string(rune(code)) {
			t.Fatalf("%X is written %q", code, form)
		}
		if read, taken := probe.First(form + "\x80"); read != code || taken != n {
			t.Fatalf("%q is read as %X, of %d bytes", form, read, taken)
		}
	}
}

func TestFirstAgainstTheLibrary(t *testing.T) {
	c := probe.Chance(14)
	for range 1 << 20 {
		s := c.Text(5, []string{"a", "\x80", "\x9f", "\xa0", "\xbf", "\xc1", "\xc3", "\xe0", "\xed", "\xf0", "\xf4", "\xff"})
		code, n := utf8.DecodeRuneInString(s)
		if code == utf8.RuneError {
			code, n = 0, 0
		}
		if read, taken := probe.First(s); read != int(code) || taken != n {
			t.Fatalf("%q is read as %X, of %d bytes", s, read, taken)
		}
	}
}

func TestFormsThatAreLonger(t *testing.T) {
	for n := 2; n <= 4; n++ {
		for code := range probe.Least(n) {
			if _, taken := probe.First(probe.Form(code, n)); taken != 0 {
				t.Fatalf("%X may have %d bytes", code, n)
			}
		}
	}
}

func TestTexts(t *testing.T) {
	if got := probe.Texts(2, "a", "bc"); !slices.Equal(got, []string{"", "a", "bc", "aa", "abc", "bca", "bcbc"}) {
		t.Errorf("%q", got)
	}
}
