package weave_test

import (
	"slices"
	"testing"

	"montage/weave"
)

func TestUnionAndCommonOfTheExample(t *testing.T) {
	holdAsked(t, rows(texts("a", "b"), texts("b", "c")), texts("a", "b", "c"), texts("b"))
}

func TestUnionAndCommonOfNothing(t *testing.T) {
	holdAsked(t, nil, nil, nil)
	holdAsked(t, rows(), nil, nil)
	holdAsked(t, rows(nil), nil, nil)
	holdAsked(t, rows(texts(), nil), nil, nil)
	if l := weave.Union(); len(l) > 0 {
		t.Errorf("Union(): %q", l)
	}
	if l := weave.Common(); len(l) > 0 {
		t.Errorf("Common(): %q", l)
	}
}

func TestUnionAndCommonOfOneRow(t *testing.T) {
	holdAsked(t, rows(texts("a")), texts("a"), texts("a"))
	holdAsked(t, rows(texts("")), texts(""), texts(""))
	holdAsked(t, rows(texts("c", "a", "b", "a")), texts("a", "b", "c"), texts("a", "b", "c"))
	holdAsked(t, rows(texts("q", "q")), texts("q"), texts("q"))
	holdAsked(t, rows(texts("a.b", "a/b/c", "a", "a/b", "")), texts("", "a", "a/b", "a/b/c", "a.b"), texts("", "a", "a/b", "a/b/c", "a.b"))
}

func TestUnionAndCommonOfARowWithoutTexts(t *testing.T) {
	holdAsked(t, rows(texts("a"), nil), texts("a"), nil)
	holdAsked(t, rows(nil, texts("a")), texts("a"), nil)
	holdAsked(t, rows(texts("a", "b"), texts(), texts("b", "a")), texts("a", "b"), nil)
	holdAsked(t, rows(texts(""), nil), texts(""), nil)
	holdAsked(t, rows(texts("a"), texts("a"), nil, texts("a")), texts("a"), nil)
}

func TestUnionAndCommonOfTheSameRow(t *testing.T) {
	row := texts("b", "a", "b")
	holdAsked(t, rows(row, row), texts("a", "b"), texts("a", "b"))
	holdAsked(t, rows(row, texts("a", "b"), row, row), texts("a", "b"), texts("a", "b"))
	holdAsked(t, rows(row, row, texts("b")), texts("a", "b"), texts("b"))
}

func TestCommonCountsRowsAndNoTexts(t *testing.T) {
	// A text as often as there are rows is in all of them only where each row has it.
	holdAsked(t, rows(texts("a", "a"), texts("b")), texts("a", "b"), nil)
	holdAsked(t, rows(texts("a", "a", "b"), texts("b"), texts("b", "c")), texts("a", "b", "c"), texts("b"))
	holdAsked(t, rows(texts("a", "a", "a"), nil, nil), texts("a"), nil)
	holdAsked(t, rows(texts("a", "a"), texts("a", "a", "a")), texts("a"), texts("a"))
}

func TestUnionAndCommonOfTextsInAllInSomeAndInOne(t *testing.T) {
	holdAsked(t, rows(texts("all", "one", ""), texts("some", "all"), texts("all", "ALL"), texts("all", "some")),
		texts("", "ALL", "all", "one", "some"), texts("all"))
	holdAsked(t, rows(texts("b", "a"), texts("c", "b"), texts("a", "c")), texts("a", "b", "c"), nil)
}

func TestUnionAndCommonOfTextsThatAreNoPaths(t *testing.T) {
	holdAsked(t, rows(texts("\xff", "..", "/a", "a/"), texts("a/", "a//b", "/a", "\\", "\xff")),
		texts("/a", "..", "\\", "a/", "a//b", "\xff"), texts("/a", "a/", "\xff"))
	holdAsked(t, rows(texts("a/\xff", "a\x00", "a!"), texts("a!", "a\x00", "a/\xff")),
		texts("a/\xff", "a\x00", "a!"), texts("a/\xff", "a\x00", "a!"))
}

// spare answers rows that all lie in one row of texts, with texts of others behind each.
func spare() ([]string, [][]string) {
	whole := texts("b", "a", "b", "c", "a", "d", "a/b", "")
	return whole, rows(whole[0:2], whole[2:5], whole[1:3])
}

func TestRowsStayAsTheyWere(t *testing.T) {
	kept, _ := spare()
	for name, ask := range map[string]func([][]string){
		"Weave":  func(l [][]string) { gone(weave.Weave(l...)) },
		"Union":  func(l [][]string) { _ = append(weave.Union(l...), "x", "y", "z") },
		"Common": func(l [][]string) { _ = append(weave.Common(l...), "x", "y", "z") },
	} {
		whole, l := spare()
		ask(l)
		if !slices.Equal(whole, kept) {
			t.Errorf("%s changed what the rows lie in: %q", name, whole)
		}
		if _, same := spare(); !sameRows(l, same) {
			t.Errorf("%s changed the rows: %q", name, l)
		}
		ask(l[:2])
		if _, same := spare(); !sameRows(l, same) {
			t.Errorf("%s changed a row behind those handed in: %q", name, l)
		}
	}
}

func TestAnswersAreTheCallersOwn(t *testing.T) {
	for name, ask := range map[string]func(...[]string) []string{"Union": weave.Union, "Common": weave.Common} {
		for _, row := range [][]string{{"a"}, {"a", "b"}, {"a", "b", "c"}} {
			want := slices.Clone(row)
			l := rows(row, slices.Clone(row))
			first := ask(l...)
			second := ask(l...)
			for i := range first {
				first[i] = "changed"
			}
			_ = append(first, "x", "y", "z")
			if !slices.Equal(second, want) || !slices.Equal(ask(l...), want) || !sameRows(l, rows(want, want)) {
				t.Errorf("%s of %q: %q once an answer was changed, and the rows are %q", name, want, second, l)
			}
			clear(row)
			if !slices.Equal(second, want) {
				t.Errorf("%s of %q: %q once a row was changed", name, want, second)
			}
		}
	}
}

func TestAnswersStayThroughLaterCalls(t *testing.T) {
	l := some()
	turns, union, common := gone(weave.Weave(l...)), weave.Union(l...), weave.Common(l[0], l[2])
	for range 3 {
		gone(weave.Weave(texts("z", "y", "x", "w"), texts("z"), texts("y")))
		weave.Union(texts("z", "y", "x", "w", "v"))
		weave.Common(texts("z", "y", "x"), texts("z", "x"))
	}
	if !sameTurns(turns, turnsOfSome()) {
		t.Errorf("Weave: %v", turns)
	}
	if !slices.Equal(union, texts("a", "a/b", "a-", "b", "c")) || !slices.Equal(common, texts("a", "b")) {
		t.Errorf("Union %q, Common %q", union, common)
	}
}
