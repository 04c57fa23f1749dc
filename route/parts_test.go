package route_test

import (
	"slices"
	"strings"
	"testing"

	"montage/probe"
	"montage/route"
)

func holdParts(t *testing.T, p string, want ...string) {
	t.Helper()
	got := route.Parts(p)
	if !slices.Equal(got, want) {
		t.Errorf("Parts(%.60q): %q, not %q", p, got, want)
	}
	for i := range got {
		got[i] = "changed"
	}
	if again := route.Parts(p); !slices.Equal(again, want) {
		t.Errorf("Parts(%.60q), again: %q, not %q", p, again, want)
	}
}

func holdParent(t *testing.T, p, parent string, ok bool) {
	t.Helper()
	if got, has := route.Parent(p); got != parent || has != ok {
		t.Errorf("Parent(%.60q): %.60q %v, not %.60q %v", p, got, has, parent, ok)
	}
}

func holdBase(t *testing.T, p, base string) {
	t.Helper()
	if got := route.Base(p); got != base {
		t.Errorf("Base(%.60q): %.60q, not %.60q", p, got, base)
	}
}

func holdUnder(t *testing.T, p, dir string, want bool) {
	t.Helper()
	if got := route.Under(p, dir); got != want {
		t.Errorf("Under(%.60q, %.60q): %v", p, dir, got)
	}
}

func TestParts(t *testing.T) {
	holdParts(t, "a/b/c", "a", "b", "c")
	holdParts(t, "a", "a")
	holdParts(t, "")
	holdParts(t, "/", "", "")
	holdParts(t, "//", "", "", "")
	holdParts(t, "/a", "", "a")
	holdParts(t, "a/", "a", "")
	holdParts(t, "a//b", "a", "", "b")
	holdParts(t, "\xff/\x80\x00", "\xff", "\x80\x00")
	holdParts(t, "é/.././\\", "é", "..", ".", "\\")
	holdParts(t, strings.Repeat("/", 2000), make([]string, 2001)...)
	holdParts(t, strings.Repeat("a/", 2000), append(slices.Repeat([]string{"a"}, 2000), "")...)
}

func TestParentAndBase(t *testing.T) {
	for _, c := range []struct {
		p, parent string
		ok        bool
		base      string
	}{
		{"a/b/c", "a/b", true, "c"},
		{"a/b", "a", true, "b"},
		{"a", "", false, "a"},
		{"", "", false, ""},
		{"/", "", true, ""},
		{"//", "/", true, ""},
		{"/a", "", true, "a"},
		{"a/", "a", true, ""},
		{"a//", "a/", true, ""},
		{"a//b", "a/", true, "b"},
		{"\xff/\x80", "\xff", true, "\x80"},
		{"\xff", "", false, "\xff"},
		{"a/..", "a", true, ".."},
		{strings.Repeat("/", 2000), strings.Repeat("/", 1999), true, ""},
		{strings.Repeat("a/", 2000) + "b", strings.Repeat("a/", 1999) + "a", true, "b"},
	} {
		holdParent(t, c.p, c.parent, c.ok)
		holdBase(t, c.p, c.base)
	}
}

func TestJoin(t *testing.T) {
	for _, c := range [][3]string{
		{"a", "b", "a/b"}, {"a/b", "c", "a/b/c"}, {"a", "b/c", "a/b/c"}, {"", "x", "x"}, {"", "", ""}, {"a", "", "a/"},
		{"", "/", "/"}, {"/", "", "//"}, {"/", "/", "///"}, {"a/", "b", "a//b"}, {"a", "/b", "a//b"}, {"", "/a", "/a"},
		{"\xff", "\x80", "\xff/\x80"}, {".", "..", "./.."}, {x(5000), x(5000), x(5000) + "/" + x(5000)},
	} {
		if got := route.Join(c[0], c[1]); got != c[2] {
			t.Errorf("Join(%.60q, %.60q): %.60q", c[0], c[1], got)
		}
	}
}

func TestUnder(t *testing.T) {
	for _, c := range []struct {
		p, dir string
		under  bool
	}{
		{"a/b", "a", true}, {"a/b/c", "a", true}, {"a/b/c", "a/b", true}, {"a", "a", false}, {"a", "a/b", false},
		{"ab", "a", false}, {"a/bc", "a/b", false}, {"ab/c", "a", false}, {"b/a", "a", false}, {"a-b", "a", false},
		{"A/b", "a", false}, {"b/a/c", "a", false}, {"a\\b", "a", false},
		{"a", "", true}, {"a/b", "", true}, {"/", "", true}, {"\xff", "", true}, {"", "", false}, {"", "a", false}, {"", "/", false},
		{"a/", "a", true}, {"a//", "a", true}, {"a//b", "a", true}, {"a//b", "a/", true}, {"a/b", "a/", false}, {"a/", "a/", false},
		{"/a", "/", false}, {"//", "/", true}, {"//a", "/", true}, {"/", "/", false}, {"/a/b", "/a", true},
		{"\xff/\x80", "\xff", true}, {"\xff\x80", "\xff", false},
		{strings.Repeat("a/", 2000) + "b", strings.Repeat("a/", 1999) + "a", true},
	} {
		holdUnder(t, c.p, c.dir, c.under)
	}
}

func TestTextsAgainstTheWords(t *testing.T) {
	for _, p := range probe.Texts(7, "a", "/", "\xff", ".") {
		l := partsBy(p)
		holdParts(t, p, l...)
		last := len(l) - 1
		if last < 1 {
			holdParent(t, p, "", false)
			holdBase(t, p, p)
			continue
		}
		holdParent(t, p, joinedBy(l[:last]), true)
		holdBase(t, p, l[last])
	}
}

func TestTwoTextsAgainstTheWords(t *testing.T) {
	texts, parts := textsApart()
	for i, a := range texts {
		for k, b := range texts {
			if got := route.Under(a, b); got != underBy(parts[i], parts[k]) {
				t.Fatalf("Under(%q, %q): %v", a, b, got)
			}
			want := b
			if a != "" {
				want = a + "/" + b
			}
			if got := route.Join(a, b); got != want {
				t.Fatalf("Join(%q, %q): %q", a, b, got)
			}
		}
	}
}

func TestUnderByChance(t *testing.T) {
	c := probe.Chance(31)
	letters := []string{"a", "b", "/", "/", "é", "\x00", "//"}
	unders := 0
	for range 50000 {
		dir := c.Text(6, letters)
		p := c.Text(12, letters)
		if c.Below(2) == 0 {
			p = dir + p
		}
		want := underBy(partsBy(p), partsBy(dir))
		holdUnder(t, p, dir, want)
		if want {
			unders++
		}
	}
	if unders < 1000 {
		t.Errorf("%d are under another one: too few to tell", unders)
	}
}
