package route_test

import (
	"slices"
	"strings"
	"testing"

	"montage/probe"
	"montage/route"
)

// holdCompare asks Compare of two texts both ways round, and of each with itself.
func holdCompare(t *testing.T, a, b string, want int) {
	t.Helper()
	if got := route.Compare(a, b); got != want {
		t.Errorf("Compare(%.60q, %.60q): %d, not %d", a, b, got, want)
	}
	if got := route.Compare(b, a); got != -want {
		t.Errorf("Compare(%.60q, %.60q): %d, not %d", b, a, got, -want)
	}
	if route.Compare(a, a) != 0 || route.Compare(b, b) != 0 {
		t.Errorf("%.60q or %.60q isn't the same as itself", a, b)
	}
}

func TestCompareOfRowsInOrder(t *testing.T) {
	for _, row := range [][]string{
		{"", "a", "a/b", "a/b/c", "a/c", "aa", "aa/b", "b"},
		{"a", "a/b", "a-b", "a.b", "a0", "ab"},
		{"a", "a/a", "a/b", "a/z", "a\x00", "a\x01", "a ", "a!", "a-", "a.", "a0", "a\x7f", "a\x80", "a\xff"},
		{"", "/", "//", "/a", "/a/", "/a/b", "a", "a/", "a//", "a//b", "a/a"},
		{"A", "B", "a", "b", "z", "é", "漢", "😀", "\xff"},
		{"d", "d/x", "d/x/y", "d/x-y", "d/x.y", "d/xy", "d-x", "d.x", "d0x", "dx"},
		{x(5000), x(5000) + "/a", x(5000) + "!", x(5001)},
	} {
		for i, a := range row {
			for k, b := range row {
				want := 0
				if i < k {
					want = -1
				}
				if i > k {
					want = 1
				}
				holdCompare(t, a, b, want)
			}
		}
	}
}

func TestCompareOfEachByte(t *testing.T) {
	for c := range 256 {
		if c == '/' {
			continue
		}
		b := string([]byte{byte(c)})
		holdCompare(t, "a/b", "a"+b, -1)
		holdCompare(t, "a/b", "a"+b+"b", -1)
		holdCompare(t, "a", "a"+b, -1)
		holdCompare(t, "a/", "a"+b, -1)
		for d := range c {
			if d != '/' {
				holdCompare(t, string([]byte{byte(d)}), b, -1)
				holdCompare(t, "a/"+string([]byte{byte(d)})+"/z", "a/"+b+"/a", -1)
			}
		}
	}
}

func TestCompareAgainstTheWords(t *testing.T) {
	texts, parts := textsApart()
	for i, a := range texts {
		for k, b := range texts {
			want := orderBy(parts[i], parts[k])
			if got := route.Compare(a, b); got != want {
				t.Fatalf("Compare(%q, %q): %d, not %d", a, b, got, want)
			}
			if want == 0 && i != k {
				t.Fatalf("%q and %q are the same in order", a, b)
			}
		}
	}
}

func TestCompareByChance(t *testing.T) {
	c := probe.Chance(1301)
	letters := []string{"a", "b", "/", "/", ".", "-", "\x00", "é", "\xff"}
	for range 50000 {
		same := c.Text(6, letters)
		a, b := same+c.Text(5, letters), same+c.Text(5, letters)
		holdCompare(t, a, b, orderBy(partsBy(a), partsBy(b)))
	}
}

func TestOrderOfThreeIsOne(t *testing.T) {
	texts := probe.Texts(3, "a", "/", "-", ".")
	for _, a := range texts {
		for _, b := range texts {
			if route.Compare(a, b) != -route.Compare(b, a) {
				t.Fatalf("%q and %q both ways round", a, b)
			}
			if route.Compare(a, b) >= 0 {
				continue
			}
			for _, c := range texts {
				if route.Compare(b, c) < 0 && route.Compare(a, c) != -1 {
					t.Fatalf("%q is ahead of %q, that of %q, but not the first of the last", a, b, c)
				}
			}
		}
	}
}

// holdNextAreUnder tells whether in a row in order each text stands just ahead of all
// that are under it.
func holdNextAreUnder(t *testing.T, row []string) {
	t.Helper()
	for i, dir := range row {
		ended := false
		for _, p := range row[i+1:] {
			under := route.Under(p, dir)
			if under && ended {
				t.Fatalf("something else stands between %q and %q", dir, p)
			}
			ended = ended || !under
		}
		for _, p := range row[:i] {
			if route.Under(p, dir) {
				t.Fatalf("%q is ahead of %q", p, dir)
			}
		}
	}
}

func TestNothingElseStandsBetween(t *testing.T) {
	texts := probe.Texts(5, "a", "/", "-", "b")
	slices.SortFunc(texts, route.Compare)
	holdNextAreUnder(t, texts)

	c := probe.Chance(7)
	letters := strings.Split("a b / / / . - é ~", " ")
	var some []string
	for range 1000 {
		some = append(some, c.Text(9, letters))
	}
	slices.SortFunc(some, route.Compare)
	holdNextAreUnder(t, slices.Compact(some))
}
