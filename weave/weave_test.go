package weave_test

import (
	"slices"
	"strconv"
	"strings"
	"testing"

	"montage/probe"
	"montage/weave"
)

func TestWeaveOfTheExample(t *testing.T) {
	holdTurns(t, rows(texts("a", "b"), texts("b", "c")), turn{"a", at(0)}, turn{"b", at(0, 1)}, turn{"c", at(1)})
}

func TestWeaveOfNothing(t *testing.T) {
	holdTurns(t, nil)
	holdTurns(t, rows())
	holdTurns(t, rows(nil))
	holdTurns(t, rows(texts()))
	holdTurns(t, rows(nil, texts(), nil))
	holdTurns(t, make([][]string, 1000))
	if got := gone(weave.Weave()); len(got) > 0 {
		t.Errorf("Weave(): %v", got)
	}
}

func TestWeaveOfRowsWithoutTexts(t *testing.T) {
	holdTurns(t, rows(nil, texts("a")), turn{"a", at(1)})
	holdTurns(t, rows(texts("a"), nil), turn{"a", at(0)})
	holdTurns(t, rows(texts("a"), nil, texts("a")), turn{"a", at(0, 2)})
	holdTurns(t, rows(texts(), texts("b"), nil, texts(), texts("a", "b"), texts()), turn{"a", at(4)}, turn{"b", at(1, 4)})
}

func TestWeaveOfOneRow(t *testing.T) {
	holdTurns(t, rows(texts("a")), turn{"a", at(0)})
	holdTurns(t, rows(texts("a", "b")), turn{"a", at(0)}, turn{"b", at(0)})
	holdTurns(t, rows(texts("b", "a")), turn{"a", at(0)}, turn{"b", at(0)})
	holdTurns(t, rows(texts("c", "a", "b", "a")), turn{"a", at(0)}, turn{"b", at(0)}, turn{"c", at(0)})
}

func TestWeaveOfTheSameRow(t *testing.T) {
	row := texts("b", "a")
	holdTurns(t, rows(row, row), turn{"a", at(0, 1)}, turn{"b", at(0, 1)})
	holdTurns(t, rows(row, row, row), turn{"a", at(0, 1, 2)}, turn{"b", at(0, 1, 2)})
	holdTurns(t, rows(row, texts("a", "b"), row), turn{"a", at(0, 1, 2)}, turn{"b", at(0, 1, 2)})
	// Rows that lie one over the other are several rows, too.
	long := texts("c", "b", "a")
	holdTurns(t, rows(long, long[:2], long[1:]), turn{"a", at(0, 2)}, turn{"b", at(0, 1, 2)}, turn{"c", at(0, 1)})
}

func TestWeaveOfRowsInNoOrder(t *testing.T) {
	want := []turn{{"a", at(0, 1)}, {"b", at(0)}, {"c", at(0, 1)}, {"d", at(1)}}
	for _, first := range [][]string{{"a", "b", "c"}, {"a", "c", "b"}, {"b", "a", "c"}, {"b", "c", "a"}, {"c", "a", "b"}, {"c", "b", "a"}} {
		for _, second := range [][]string{{"a", "c", "d"}, {"a", "d", "c"}, {"c", "a", "d"}, {"c", "d", "a"}, {"d", "a", "c"}, {"d", "c", "a"}} {
			holdTurns(t, rows(first, second), want...)
		}
	}
}

func TestWeaveTellsAPlaceOnce(t *testing.T) {
	holdTurns(t, rows(texts("a", "a")), turn{"a", at(0)})
	holdTurns(t, rows(texts("a", "a", "a"), texts("a", "a")), turn{"a", at(0, 1)})
	holdTurns(t, rows(texts("a", "b", "a"), texts("b", "a", "b")), turn{"a", at(0, 1)}, turn{"b", at(0, 1)})
	holdTurns(t, rows(texts("b"), texts("a", "a"), texts("b", "a", "b")), turn{"a", at(1, 2)}, turn{"b", at(0, 2)})
	holdTurns(t, rows(slices.Repeat(texts("x"), 1000), slices.Repeat(texts("y", "x"), 1000)), turn{"x", at(0, 1)}, turn{"y", at(1)})
}

func TestWeaveOfTextsInAllInSomeAndInOne(t *testing.T) {
	holdTurns(t, rows(texts("all", "one"), texts("some", "all"), texts("all"), texts("all", "some")),
		turn{"all", at(0, 1, 2, 3)}, turn{"one", at(0)}, turn{"some", at(1, 3)})
	holdTurns(t, rows(texts("some"), texts("some"), texts("last")), turn{"last", at(2)}, turn{"some", at(0, 1)})
}

func TestWeaveOfTheEmptyText(t *testing.T) {
	holdTurns(t, rows(texts("")), turn{"", at(0)})
	holdTurns(t, rows(texts("", "")), turn{"", at(0)})
	holdTurns(t, rows(texts("a"), texts("a", "")), turn{"", at(1)}, turn{"a", at(0, 1)})
	holdTurns(t, rows(texts("/", "", "//"), nil, texts("", "\x00")), turn{"", at(0, 2)}, turn{"/", at(0)}, turn{"//", at(0)}, turn{"\x00", at(2)})
}

func TestWeaveOfTextsThatAreNoPaths(t *testing.T) {
	long := strings.Repeat("a/", 3000)
	holdTurns(t, rows(texts("\xff", "..", "/a", "."), texts("a//b", "a/", "/a", "\x7f", "\\")),
		turn{"/a", at(0, 1)}, turn{".", at(0)}, turn{"..", at(0)}, turn{"\\", at(1)}, turn{"a/", at(1)}, turn{"a//b", at(1)},
		turn{"\x7f", at(1)}, turn{"\xff", at(0)})
	holdTurns(t, rows(texts(long+"b", long, long+"a"), texts(long[:len(long)-1], long)),
		turn{long[:len(long)-1], at(1)}, turn{long, at(0, 1)}, turn{long + "a", at(0)}, turn{long + "b", at(0)})
	// Bytes alone say which texts are the same: neither case, nor a code point in two ways.
	holdTurns(t, rows(texts("a", "A"), texts("A", "é", "e\u0301")), turn{"A", at(0, 1)}, turn{"a", at(0)}, turn{"e\u0301", at(1)}, turn{"é", at(1)})
}

func TestWeaveOfNamesThatBeginAlike(t *testing.T) {
	holdTurns(t, rows(texts("a.b", "a/b/c", "a", "a/b")),
		turn{"a", at(0)}, turn{"a/b", at(0)}, turn{"a/b/c", at(0)}, turn{"a.b", at(0)})
	holdTurns(t, rows(texts("a.b", "a"), texts("a/b/c", "a.b"), texts("a/b", "a-b", "a!", "a0", "ab", "a/b-c")),
		turn{"a", at(0)}, turn{"a/b", at(2)}, turn{"a/b/c", at(1)}, turn{"a/b-c", at(2)},
		turn{"a!", at(2)}, turn{"a-b", at(2)}, turn{"a.b", at(0, 1)}, turn{"a0", at(2)}, turn{"ab", at(2)})
	holdTurns(t, rows(texts("a\x00", "a/\xff", "a/", "a\x00/b")),
		turn{"a/", at(0)}, turn{"a/\xff", at(0)}, turn{"a\x00", at(0)}, turn{"a\x00/b", at(0)})
}

func TestWeaveOfManyRows(t *testing.T) {
	var l [][]string
	want := []turn{{"all", nil}, {"even", nil}}
	for i := range 3000 {
		row := texts("all", "own"+strconv.Itoa(100000-i))
		if i%2 == 0 {
			row = append(row, "even", "all")
			want[1].places = append(want[1].places, i)
		}
		want[0].places = append(want[0].places, i)
		l = append(l, row)
	}
	for i := 2999; i >= 0; i-- {
		want = append(want, turn{"own" + strconv.Itoa(100000-i), at(i)})
	}
	// 100000 has a digit more than the others, and is ahead of them.
	want = slices.Insert(want[:len(want)-1], 2, want[len(want)-1])
	if got := gone(weave.Weave(l...)); !sameTurns(got, want) {
		t.Errorf("%d texts of 3000 rows: %v", len(got), got[:min(len(got), 9)])
	}
}

func TestWeaveOfManyTexts(t *testing.T) {
	var even, all []string
	for i := 199999; i >= 100000; i-- {
		text := "d" + strconv.Itoa(i%10) + "/" + strconv.Itoa(i)
		all = append(all, text)
		if i%2 == 0 {
			even = append(even, text)
		}
	}
	n, last := 0, ""
	for text, places := range weave.Weave(even, all) {
		want := at(1)
		if (text[len(text)-1]-'0')%2 == 0 {
			want = at(0, 1)
		}
		if !slices.Equal(places, want) || !isAhead(last, text) {
			t.Fatalf("%q of the rows %v, behind %q", text, places, last)
		}
		n, last = n+1, text
	}
	if n != 100000 || last != "d9/199999" {
		t.Errorf("%d texts, %q the last one", n, last)
	}
}

// rowsOf answers all rows of at most n texts.
func rowsOf(n int, letters ...string) [][]string {
	all := [][]string{nil}
	last := all
	for range n {
		var more [][]string
		for _, row := range last {
			for _, text := range letters {
				more = append(more, append(slices.Clone(row), text))
			}
		}
		all = append(all, more...)
		last = more
	}
	return all
}

func TestAllCallsOfAllShortRows(t *testing.T) {
	few := rowsOf(2, "", "a", "a/b", "a-")
	for _, first := range few {
		hold(t, first)
		for _, second := range few {
			hold(t, first, second)
			for _, third := range few {
				hold(t, first, second, third)
			}
		}
	}
	long := rowsOf(4, "b", "a/b", "a")
	for _, first := range long {
		hold(t, first)
		for _, second := range long {
			hold(t, first, second)
		}
	}
}

func TestAllCallsByChance(t *testing.T) {
	c := probe.Chance(16)
	for _, letters := range [][]string{{"a", "/"}, {"a", "b", "/", "-"}, {"a", "/", "", ".", "é", "\x00", "\xff"}} {
		for range 3000 {
			hold(t, rowsByChance(&c, 6, 12, letters)...)
		}
		for range 30 {
			hold(t, rowsByChance(&c, 60, 40, letters)...)
		}
	}
}

func TestAllCallsOfPathsByChance(t *testing.T) {
	c := probe.Chance(61)
	var paths []string
	for _, text := range probe.Texts(3, "/a", "/b", "/a.b", "/é") {
		if text != "" {
			paths = append(paths, text[1:])
		}
	}
	for range 2000 {
		var l [][]string
		for range c.Below(6) {
			var row []string
			for range c.Below(30) {
				row = append(row, paths[c.Below(len(paths))])
			}
			l = append(l, row)
		}
		hold(t, l...)
	}
}
