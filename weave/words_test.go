package weave_test

import (
	"fmt"
	"iter"
	"slices"
	"strings"
	"testing"

	"montage/probe"
	"montage/weave"
)

// turn is what a loop says at one of its turns: a text, and the places of the rows that
// have it.
type turn struct {
	text   string
	places []int
}

// String tells a turn so that each byte of its text is to be seen.
func (x turn) String() string {
	return fmt.Sprintf("%.80q %v", x.text, x.places)
}

// sameTurns tells whether two loops said the same.
func sameTurns(a, b []turn) bool {
	return slices.EqualFunc(a, b, func(x, y turn) bool {
		return x.text == y.text && slices.Equal(x.places, y.places)
	})
}

// gone answers what a loop says, gone over to its end.
func gone(seq iter.Seq2[string, []int]) []turn {
	var l []turn
	for text, places := range seq {
		l = append(l, turn{text, places})
	}
	return l
}

// isAhead tells whether one text is ahead of another one, part by part, by bytes. (The
// parts of "" are none; one empty part stands in order just as none does, but for an empty
// part alone, which no text has.)
func isAhead(a, b string) bool {
	return slices.Compare(strings.Split(a, "/"), strings.Split(b, "/")) < 0
}

// weaveBy answers what Weave says, as the chapter says it: text by text, each put where it
// belongs.
func weaveBy(rows [][]string) []turn {
	var l []turn
	for place, row := range rows {
		for _, text := range row {
			i := slices.IndexFunc(l, func(x turn) bool { return !isAhead(x.text, text) })
			if i < 0 {
				i = len(l)
			}
			if i == len(l) || l[i].text != text {
				l = slices.Insert(l, i, turn{text, nil})
			}
			if !slices.Contains(l[i].places, place) {
				l[i].places = append(l[i].places, place)
			}
		}
	}
	return l
}

// unionBy answers what Union says: all texts of what Weave says.
func unionBy(rows [][]string) []string {
	var l []string
	for _, x := range weaveBy(rows) {
		l = append(l, x.text)
	}
	return l
}

// commonBy answers what Common says: the texts of what Weave says, of which each row is
// asked.
func commonBy(rows [][]string) []string {
	var l []string
	for _, x := range weaveBy(rows) {
		all := true
		for _, row := range rows {
			all = all && slices.Contains(row, x.text)
		}
		if all {
			l = append(l, x.text)
		}
	}
	return l
}

// copied answers rows that share nothing with those handed in.
func copied(rows [][]string) [][]string {
	l := make([][]string, len(rows))
	for i, row := range rows {
		l[i] = slices.Clone(row)
	}
	return l
}

// sameRows tells whether rows have the same texts, at the same places.
func sameRows(a, b [][]string) bool {
	return slices.EqualFunc(a, b, slices.Equal[[]string])
}

// hold asks all three calls of rows, each twice, whether they answer as the chapter says,
// and whether the rows stay as they were.
func hold(t *testing.T, rows ...[]string) {
	t.Helper()
	before := copied(rows)
	want, union, common := weaveBy(rows), unionBy(rows), commonBy(rows)
	seq := weave.Weave(rows...)
	for range 2 {
		if got := gone(seq); !sameTurns(got, want) {
			t.Errorf("Weave(%.200q): %v, not %v", rows, got, want)
		}
		if got := gone(weave.Weave(rows...)); !sameTurns(got, want) {
			t.Errorf("Weave(%.200q), called again: %v, not %v", rows, got, want)
		}
		if got := weave.Union(rows...); !slices.Equal(got, union) {
			t.Errorf("Union(%.200q): %.200q, not %.200q", rows, got, union)
		}
		if got := weave.Common(rows...); !slices.Equal(got, common) {
			t.Errorf("Common(%.200q): %.200q, not %.200q", rows, got, common)
		}
	}
	if !sameRows(rows, before) {
		t.Errorf("rows were %.200q, and are %.200q", before, rows)
	}
}

// holdTurns asks Weave of rows, whose turns are told one by one.
func holdTurns(t *testing.T, rows [][]string, want ...turn) {
	t.Helper()
	if got := gone(weave.Weave(rows...)); !sameTurns(got, want) {
		t.Errorf("Weave(%q): %v, not %v", rows, got, want)
	}
	hold(t, rows...)
}

// holdAsked asks Union and Common of rows.
func holdAsked(t *testing.T, rows [][]string, union, common []string) {
	t.Helper()
	if got := weave.Union(rows...); !slices.Equal(got, union) {
		t.Errorf("Union(%q): %q, not %q", rows, got, union)
	}
	if got := weave.Common(rows...); !slices.Equal(got, common) {
		t.Errorf("Common(%q): %q, not %q", rows, got, common)
	}
	hold(t, rows...)
}

// at answers places.
func at(places ...int) []int {
	return places
}

// texts answers a row.
func texts(l ...string) []string {
	return l
}

// rows answers rows.
func rows(l ...[]string) [][]string {
	return l
}

// rowByChance answers up to most texts.
func rowByChance(c *probe.Chance, most int, letters []string) []string {
	var row []string
	for range c.Below(most + 1) {
		row = append(row, c.Text(4, letters))
	}
	return row
}

// rowsByChance answers up to most rows, of up to as many texts.
func rowsByChance(c *probe.Chance, most, long int, letters []string) [][]string {
	var l [][]string
	for range c.Below(most + 1) {
		l = append(l, rowByChance(c, long, letters))
	}
	return l
}
