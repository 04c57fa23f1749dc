package fold_test

import (
	"strings"
	"testing"

	"montage/fold"
	"montage/probe"
)

// holdAlike asks Alike of two texts, of both orders, and again; and looks at the texts
// behind that.
func holdAlike(t *testing.T, a, b string, want bool) {
	t.Helper()
	handed := [2]string{strings.Clone(a), strings.Clone(b)}
	for range 2 {
		if fold.Alike(a, b) != want || fold.Alike(b, a) != want {
			t.Errorf("Alike(%.60q, %.60q) isn't %v", a, b, want)
		}
	}
	if handed != [2]string{a, b} {
		t.Errorf("Alike made %.60q and %.60q of %.60q", a, b, handed)
	}
}

func TestAlikeOfOrdinaryTexts(t *testing.T) {
	for _, row := range [][2]string{
		{"", ""}, {"a", "a"}, {"A", "a"}, {"Dir/FILE", "dir/file"}, {"Dir/FILE", "dIR/file"}, {"É", "é"}, {"Aé/É", "aÉ/é"},
		{"ΣΑΣ", "σασ"}, {"Џ", "џ"}, {"Ж", "ж"}, {"漢a", "漢A"}, {"\ufffdA", "\ufffda"},
	} {
		holdAlike(t, row[0], row[1], true)
	}
}

func TestAlikeOfOthers(t *testing.T) {
	for _, row := range [][2]string{
		{"", "a"}, {"a", "b"}, {"a", "á"}, {"A", "Á"}, {"A", "aa"}, {"Aa", "a"}, {"a/b", "a-b"}, {"a", "a "}, {"@", "`"}, {"[", "{"},
		{"×", "÷"}, {"ß", "SS"}, {"ß", "ẞ"}, {"ÿ", "Ÿ"}, {"ſ", "s"}, {"\u212a", "k"}, {"\u212b", "å"}, {"\u00b5", "\u03bc"},
		{"ς", "Σ"}, {"ς", "σ"}, {"İ", "i"}, {"ı", "I"}, {"Α", "A"}, {"А", "A"}, {"Ѐ", "а"}, {"Ā", "ā"}, {"É", "E\u0301"}, {"Ά", "ά"},
	} {
		holdAlike(t, row[0], row[1], false)
	}
}

func TestAlikeOfTextsThatAreNone(t *testing.T) {
	for _, row := range [][2]string{
		{"\xff", "\xff"}, {"\xc3A", "\xc3a"}, {"\xed\xa0\x80Z", "\xed\xa0\x80z"}, {"\xc1\x81É", "\xc1\x81é"}, {"\xf4\x90\x80\x80Я", "\xf4\x90\x80\x80я"},
	} {
		holdAlike(t, row[0], row[1], true)
	}
	for _, row := range [][2]string{
		{"\xff", "\xfe"}, {"\xff", "\ufffd"}, {"\xff", ""}, {"\xc3", "\xe3"}, {"\xc3\x80", "\xc3\xff"}, {"\xc1\x81", "A"}, {"\xc1\x81", "a"},
		{"\xc1\x81", "\xc1\xa1"}, {"\xe0\x83\x80", "À"}, {"\xe0\x83\x80", "\xe0\x83\xa0"}, {"\x80", "\xa0"}, {"\xed\xa0\x80", "\xed\xa0\xa0"},
		{"\xff", "\u00ff"}, {"\xc0", "\xe0"}, {"\xc0", "\u00c0"},
	} {
		holdAlike(t, row[0], row[1], false)
	}
}

func TestAlikeOfEachCodePoint(t *testing.T) {
	for code := range 0x110000 {
		c := charOf(code)
		for _, other := range []int{code, code + 1, code + 32, code + 80, code ^ 32} {
			d := charOf(other)
			if got := fold.Alike(c, d); got != (foldBy(c) == foldBy(d)) {
				t.Fatalf("Alike(%q, %q): %v", c, d, got)
			}
		}
	}
}

func TestAlikeIsWhatFoldedTextsAre(t *testing.T) {
	texts := probe.Texts(3, "A", "a", "É", "é", "\xc3", "\x89", "\xff", "ѐ")
	folded := make([]string, len(texts))
	for i, text := range texts {
		folded[i] = foldBy(text)
	}
	for i, a := range texts {
		for j, b := range texts {
			if got := fold.Alike(a, b); got != (folded[i] == folded[j]) {
				t.Fatalf("Alike(%q, %q): %v", a, b, got)
			}
		}
	}
}

func TestAlikeByChance(t *testing.T) {
	c := probe.Chance(1414)
	for range 100000 {
		a, b := c.Text(6, pieces()), c.Text(6, pieces())
		holdAlike(t, a, b, foldBy(a) == foldBy(b))
		holdAlike(t, a, foldBy(a), true)
	}
}
