package fold_test

import (
	"strings"
	"testing"

	"montage/fold"
	"montage/probe"
)

// holdFold asks Fold of a text, of the same one again, and of what came of it; and looks
// at the text behind that.
func holdFold(t *testing.T, s, want string) {
	t.Helper()
	handed := strings.Clone(s)
	for range 2 {
		if got := fold.Fold(s); got != want {
			t.Errorf("Fold(%.60q): %.60q, not %.60q", handed, got, want)
		}
	}
	if got := fold.Fold(want); got != want {
		t.Errorf("Fold(%.60q), of what was folded: %.60q", want, got)
	}
	if s != handed {
		t.Errorf("Fold made %.60q of its argument %.60q", s, handed)
	}
}

// holdFoldByWords asks Fold of a text, held against the chapter's words made again.
func holdFoldByWords(t *testing.T, s string) {
	t.Helper()
	holdFold(t, s, foldBy(s))
}

func TestFoldOfOrdinaryTexts(t *testing.T) {
	for s, want := range map[string]string{
		"": "", "a": "a", "A": "a", "Aé/É": "aé/é", "README.md": "readme.md", "Dir/Sub/FILE": "dir/sub/file", "@AZ[`az{": "@az[`az{",
		"0 9": "0 9", "\x00A\x7f": "\x00a\x7f", "ÀÖ×ØÞß": "àö×øþß", "àö÷øþÿ": "àö÷øþÿ", "ΐΑΡΣΩΪ": "ΐαρσωΪ", "ὈΔΎΣΣΕΙΑ": "ὈδΎσσεια",
		"ЀЁЏАЯаяѐџѠ": "ѐёџаяаяѐџѠ", "漢字": "漢字", "😀A😀": "😀a😀", "İIıŸſ\u212a": "İiıŸſ\u212a", "A\u0301": "a\u0301", "\ufffdA\ufffd": "\ufffda\ufffd",
		"\U0010ffffZ": "\U0010ffffz", "ＡＺ": "ＡＺ",
	} {
		holdFold(t, s, want)
	}
}

func TestFoldOfLettersOfEachRangeNextToOthers(t *testing.T) {
	firsts := []string{"A", "À", "Ø", "Α", "Σ", "Ѐ", "А"}
	smalls := []string{"a", "à", "ø", "α", "σ", "ѐ", "а"}
	for i, first := range firsts {
		for j, second := range firsts {
			holdFold(t, first+second, smalls[i]+smalls[j])
			holdFold(t, first+"/"+second+"é", smalls[i]+"/"+smalls[j]+"é")
			holdFold(t, "漢"+first+"\xff"+second+"\xc3", "漢"+smalls[i]+"\xff"+smalls[j]+"\xc3")
		}
	}
}

func TestFoldOfEachCodePoint(t *testing.T) {
	for code := range 0x110000 {
		c := charOf(code)
		want := foldBy(c)
		if got := fold.Fold(c); got != want {
			t.Fatalf("Fold(%q): %q, not %q", c, got, want)
		}
		if got := fold.Fold("X" + c + "É"); got != "x"+want+"é" {
			t.Fatalf("Fold of %q between letters: %q", c, got)
		}
		if got := fold.Fold(want); got != want {
			t.Fatalf("Fold(%q), of what was folded: %q", want, got)
		}
	}
}

func TestFoldOfBytesThatContinueNone(t *testing.T) {
	for c := 0x80; c <= 0xBF; c++ {
		b := string([]byte{byte(c)})
		holdFold(t, b, b)
		holdFold(t, b+"A", b+"a")
		holdFold(t, "A"+b+"É"+b+b+"Я", "a"+b+"é"+b+b+"я")
	}
}

func TestFoldOfBytesThatBeginNone(t *testing.T) {
	for _, b := range []string{"\xc0", "\xc1", "\xf5", "\xf7", "\xf8", "\xfb", "\xfc", "\xfe", "\xff"} {
		holdFold(t, b, b)
		holdFold(t, b+"A", b+"a")
		holdFold(t, b+b+"É", b+b+"é")
		holdFold(t, b+"\x80Я"+b, b+"\x80я"+b)
		holdFold(t, b+"\xbf\xbf\xbfZ", b+"\xbf\xbf\xbfz")
	}
}

func TestFoldOfCutCodePoints(t *testing.T) {
	for _, code := range []int{0x80, 0xC0, 0xC3, 0x391, 0x400, 0x42F, 0x7FF, 0x800, 0x1041, 0xFFFD, 0xFFFF, 0x10000, 0x10041, 0x10FFFF} {
		c := charOf(code)
		for n := 1; n < len(c); n++ {
			cut := c[:n]
			holdFold(t, cut, cut)
			holdFold(t, cut+"Z", cut+"z")
			holdFold(t, cut+"Þ", cut+"þ")
			holdFold(t, cut+"Я"+cut, cut+"я"+cut)
			holdFold(t, cut+cut+"漢A", cut+cut+"漢a")
			holdFold(t, c[n:]+"A", c[n:]+"a")
			holdFold(t, "B"+cut+"\xffB", "b"+cut+"\xffb")
		}
	}
}

func TestFoldOfLongerForms(t *testing.T) {
	for n := 2; n <= 4; n++ {
		for code := range min(probe.Least(n), 0x900) {
			c := probe.Form(code, n)
			holdFold(t, c, c)
			holdFold(t, "A"+c+"É", "a"+c+"é")
			holdFold(t, c[:n-1]+"Z", c[:n-1]+"z")
		}
	}
}

func TestFoldOfNumbersThatAreNoCodePoints(t *testing.T) {
	for code := 0xD800; code <= 0xDFFF; code++ {
		c := probe.Form(code, 3)
		holdFold(t, c, c)
		holdFold(t, "A"+c+"Z", "a"+c+"z")
	}
	for _, code := range []int{0x110000, 0x110041, 0x1100C0, 0x13FFFF, 0x140000, 0x1FFFFF} {
		c := probe.Form(code, 4)
		holdFold(t, c, c)
		holdFold(t, c+"Z", c+"z")
		holdFold(t, "É"+c+"É", "é"+c+"é")
		holdFold(t, c[:3]+"А", c[:3]+"а")
	}
	holdFold(t, probe.Form(0xD800, 3)+probe.Form(0xDC41, 3), probe.Form(0xD800, 3)+probe.Form(0xDC41, 3))
}

func TestFoldOfTwoBytesAgainstTheWords(t *testing.T) {
	for a := range 256 {
		for b := range 256 {
			holdFoldByWords(t, string([]byte{byte(a), byte(b)}))
		}
	}
}

func TestFoldOfThreeBytesAgainstTheWords(t *testing.T) {
	for a := 0x80; a < 256; a++ {
		for b := range 256 {
			for _, c := range []byte{0x41, 0x5A, 0x80, 0x97, 0xBF, 0xC3, 0xE0, 0xFF} {
				holdFoldByWords(t, string([]byte{byte(a), byte(b), c}))
			}
		}
	}
}

func TestFoldOfPiecesAgainstTheWords(t *testing.T) {
	for _, s := range probe.Texts(3, pieces()...) {
		holdFoldByWords(t, s)
	}
}

func TestFoldByChance(t *testing.T) {
	c := probe.Chance(14)
	for range 20000 {
		holdFoldByWords(t, c.Text(40, pieces()))
	}
}

func TestFoldOfLongTexts(t *testing.T) {
	for _, n := range []int{1, 255, 1024, 1 << 16, 1 << 20} {
		holdFold(t, strings.Repeat("A", n), strings.Repeat("a", n))
		holdFold(t, strings.Repeat("Џ", n), strings.Repeat("џ", n))
		holdFold(t, strings.Repeat("\xc3", n)+"\x80", strings.Repeat("\xc3", n-1)+"à")
		holdFold(t, strings.Repeat("\x80", n)+"Z", strings.Repeat("\x80", n)+"z")
	}
}
