package route_test

import (
	"strings"
	"testing"

	"montage/api"
	"montage/probe"
	"montage/route"
)

// holdCheck asks Check of a path, and of the same one again.
func holdCheck(t *testing.T, p string, may bool) {
	t.Helper()
	want := api.OK
	if !may {
		want = api.ErrPath
	}
	if e := route.Check(p); e != want {
		t.Errorf("Check(%.60q) of %d bytes: %d, not %d", p, len(p), e, want)
	}
	if e := route.Check(p); e != want {
		t.Errorf("Check(%.60q) of %d bytes, again: %d, not %d", p, len(p), e, want)
	}
}

// x answers a part of n bytes.
func x(n int) string {
	return strings.Repeat("x", n)
}

func TestCheckOfOrdinaryPaths(t *testing.T) {
	for _, p := range []string{
		"a", "a/b", "a/b/c", "README.md", "a b", " ", " a", "a ", "a/ /b", "~", "a~1", "-", "!", "a:b", "*", "?", `"`, "<|>",
		"A/B", "0", "é", "a/é/漢/😀", ".wh.a", "a/.wh..wh..opq", "con", "\u0080", "\u00a0", "\ufeff", "\ufffd", "e\u0301",
	} {
		holdCheck(t, p, true)
	}
}

func TestCheckOfEdges(t *testing.T) {
	holdCheck(t, "", false)
	holdCheck(t, "/", false)
	holdCheck(t, "//", false)
	holdCheck(t, "/a", false)
	holdCheck(t, "a/", false)
	holdCheck(t, "a//b", false)
	holdCheck(t, "/a/", false)
	holdCheck(t, strings.Repeat("/", 1024), false)
}

func TestCheckCountsBytesOfAPath(t *testing.T) {
	full := x(255) + "/" + x(255) + "/" + x(255) + "/"
	holdCheck(t, full+x(254)+"/y", true) // 1024
	holdCheck(t, full+x(255)+"/y", false)
	holdCheck(t, full+x(254)+"/yy", false)
	holdCheck(t, full+x(255), true)
	holdCheck(t, full+x(253)+"/é", true)
	holdCheck(t, full+x(254)+"/é", false)
	holdCheck(t, full+x(200)+"/"+x(54)+"/y", false)
	holdCheck(t, x(1<<20), false)
	for n := 1000; n < 1050; n++ {
		p := strings.Repeat(x(100)+"/", 11)[:n]
		if p[n-1] == '/' {
			continue
		}
		holdCheck(t, p, n <= 1024)
	}
}

func TestCheckCountsParts(t *testing.T) {
	for n := 1; n < 80; n++ {
		holdCheck(t, strings.Repeat("a/", n-1)+"a", n <= 32)
		holdCheck(t, strings.Repeat("é/", n-1)+"é", n <= 32)
	}
	holdCheck(t, strings.Repeat(x(31)+"/", 31)+x(32), true) // 32 parts and 1024 bytes
	holdCheck(t, strings.Repeat(x(31)+"/", 31)+x(33), false)
	holdCheck(t, strings.Repeat("a/", 512)+"a", false)
}

func TestCheckCountsBytesOfAPart(t *testing.T) {
	for n := 1; n < 300; n++ {
		for _, p := range spots(x(n)) {
			holdCheck(t, p, n <= 255)
		}
	}
	for _, p := range spots(strings.Repeat("é", 127) + "x") { // 255 bytes
		holdCheck(t, p, true)
	}
	for _, p := range spots(strings.Repeat("é", 128)) { // 256 bytes, 128 code points
		holdCheck(t, p, false)
	}
	for _, p := range spots(strings.Repeat(".", 255)) {
		holdCheck(t, p, true)
	}
}

func TestCheckOfEmptyParts(t *testing.T) {
	for n := 1; n < 6; n++ {
		gap := strings.Repeat("/", n)
		holdCheck(t, gap+"a", false)
		holdCheck(t, "a"+gap+"b", n == 1)
		holdCheck(t, "a/b"+gap+"c/d", n == 1)
		holdCheck(t, "a"+gap, false)
		holdCheck(t, gap, false)
	}
}

func TestCheckOfDots(t *testing.T) {
	for part, may := range map[string]bool{
		".": false, "..": false, "...": true, "....": true, ".a": true, "..a": true, "...a": true, "a.": true, "a..": true,
		". ": true, " .": true, ".. ": true, " ..": true, "a.b": true, "a..b": true, ".é": true, "..é": true, ".\u0301": true,
		".\x00": false, "..\x7f": false, ".\\": false, ".\xff": false,
	} {
		for _, p := range spots(part) {
			holdCheck(t, p, may)
		}
	}
	holdCheck(t, "./.", false)
	holdCheck(t, "../..", false)
	holdCheck(t, ".../...", true)
}

func TestCheckOfEachByte(t *testing.T) {
	for c := range 256 {
		b := string([]byte{byte(c)})
		plain := c >= 32 && c < 127 && c != '\\'
		holdCheck(t, b, plain && c != '.' && c != '/')
		holdCheck(t, "a"+b+"b", plain)
		holdCheck(t, b+"a", plain && c != '/')
		holdCheck(t, "a"+b, plain && c != '/')
		holdCheck(t, "c/a"+b+"b/d", plain)
		holdCheck(t, "é"+b+"é", plain)
	}
}

func TestCheckOfEachCodePoint(t *testing.T) {
	for code := range 0x200000 {
		may := code >= 32 && code != 127 && code != '\\' && code != '/' && code != '.' &&
			(code < 0xD800 || code > 0xDFFF) && code <= 0x10FFFF
		p := probe.Form(code, probe.Shortest(code))
		if route.Check(p) == api.OK != may {
			t.Fatalf("code point %X: may be is %v", code, !may)
		}
	}
}

func TestCheckOfEdgesOfCodePoints(t *testing.T) {
	for code, may := range map[int]bool{
		0x20: true, 0x7E: true, 0x7F: false, 0x80: true, 0x7FF: true, 0x800: true, 0xD7FF: true, 0xD800: false, 0xDBFF: false,
		0xDC00: false, 0xDFFF: false, 0xE000: true, 0xFFFD: true, 0xFFFE: true, 0xFFFF: true, 0x10000: true, 0x10FFFF: true,
		0x110000: false, 0x13FFFF: false, 0x140000: false, 0x1FFFFF: false,
	} {
		c := probe.Form(code, probe.Shortest(code))
		for _, part := range []string{c, c + c, "a" + c, c + "a", "a" + c + "b", "é" + c + "漢"} {
			for _, p := range spots(part) {
				holdCheck(t, p, may)
			}
		}
	}
	// Two of D800 to DFFF together, which would say 10000 in another form, may not be either.
	holdCheck(t, probe.Form(0xD800, 3)+probe.Form(0xDC00, 3), false)
}

func TestCheckOfLongerForms(t *testing.T) {
	for n := 2; n <= 4; n++ {
		for code := range probe.Least(n) {
			if route.Check(probe.Form(code, n)) != api.ErrPath || route.Check("a"+probe.Form(code, n)+"b") != api.ErrPath {
				t.Fatalf("code point %X may be in %d bytes", code, n)
			}
		}
	}
	for _, form := range []string{"\xf8\x88\x80\x80\x80", "\xfc\x84\x80\x80\x80\x80", "\xfe", "\xff", "\xf8\x80\x80\x80\xaf"} {
		for _, p := range spots(form) {
			holdCheck(t, p, false)
		}
	}
}

func TestCheckOfCutCodePoints(t *testing.T) {
	for _, code := range []int{0x80, 0x7FF, 0x800, 0xFFFF, 0x10000, 0x10FFFF} {
		whole := probe.Form(code, probe.Shortest(code))
		for n := 1; n < len(whole); n++ {
			for _, cut := range []string{whole[:n], whole[n:]} {
				for _, part := range []string{cut, "a" + cut, cut + "a", "é" + cut, cut + "é", cut + whole, whole + cut} {
					for _, p := range spots(part) {
						holdCheck(t, p, false)
					}
				}
			}
			// The bytes on both sides of a / are no code point together.
			holdCheck(t, whole[:n]+"/"+whole[n:], false)
		}
	}
}

func TestCheckAgainstTheWords(t *testing.T) {
	for a := range 256 {
		for b := range 256 {
			p := string([]byte{byte(a), byte(b)})
			if route.Check(p) == api.OK != mayBeBy(p) {
				t.Fatalf("%q", p)
			}
		}
	}
	for _, p := range probe.Texts(7, "a", ".", "/", "é", "\x80") {
		holdCheck(t, p, mayBeBy(p))
	}
}

func TestCheckOfThreeAndFourBytesAgainstTheWords(t *testing.T) {
	edges := []byte{0, 'a', '/', 0x7F, 0x80, 0x81, 0x8F, 0x90, 0x9F, 0xA0, 0xBF, 0xC0, 0xED, 0xF4, 0xFF}
	for a := 0xC0; a < 256; a++ {
		for b := range 256 {
			for _, c := range edges {
				for _, d := range edges {
					p := string([]byte{byte(a), byte(b), c, d})
					if route.Check(p) == api.OK != mayBeBy(p) || route.Check(p[:3]) == api.OK != mayBeBy(p[:3]) {
						t.Fatalf("%q", p)
					}
				}
			}
		}
	}
}

func TestCheckByChance(t *testing.T) {
	c := probe.Chance(13)
	long := []string{x(30), x(100), x(254), "é", "/", "/", "/", "a", "."}
	short := []string{"a", "b", "/", "/", ".", "é", "漢", "😀", " ", "\x80", "\xe6\xbc", "\\", "\x1f"}
	mays := 0
	for range 20000 {
		p, q := c.Text(40, long), c.Text(8, short)
		holdCheck(t, p, mayBeBy(p))
		holdCheck(t, q, mayBeBy(q))
		if mayBeBy(p) || mayBeBy(q) {
			mays++
		}
	}
	if mays < 1000 {
		t.Errorf("%d may be: too few to tell", mays)
	}
}
