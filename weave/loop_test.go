package weave_test

import (
	"slices"
	"testing"

	"montage/probe"
	"montage/weave"
)

// some answers rows that a loop goes over in five turns.
func some() [][]string {
	return rows(texts("b", "a/b", "a", "a"), nil, texts("a-", "b", "a"), texts("c"))
}

// turnsOfSome answers what a loop over these rows says.
func turnsOfSome() []turn {
	return []turn{{"a", at(0, 2)}, {"a/b", at(0)}, {"a-", at(2)}, {"b", at(0, 2)}, {"c", at(3)}}
}

func TestLoopIsLeftAtEachTurn(t *testing.T) {
	want := turnsOfSome()
	seq := weave.Weave(some()...)
	for n := 1; n <= len(want)+1; n++ {
		for range 2 {
			var got []turn
			for text, places := range seq {
				if got = append(got, turn{text, places}); len(got) == n {
					break
				}
			}
			if !sameTurns(got, want[:min(n, len(want))]) {
				t.Errorf("left at turn %d: %v", n, got)
			}
		}
		if got := gone(seq); !sameTurns(got, want) {
			t.Errorf("gone over again, behind one left at turn %d: %v", n, got)
		}
	}
}

func TestLoopEndsWhereItIsLeft(t *testing.T) {
	seq := weave.Weave(some()...)
	for n := 1; n <= 6; n++ {
		asked := 0
		seq(func(string, []int) bool {
			asked++
			return asked < n
		})
		if asked != min(n, 5) {
			t.Errorf("left at turn %d, and asked %d times", n, asked)
		}
	}
}

func TestLoopOfOneTurnIsLeft(t *testing.T) {
	for range 3 {
		for text, places := range weave.Weave(texts("x"), texts("x")) {
			if text != "x" || !slices.Equal(places, at(0, 1)) {
				t.Errorf("%q %v", text, places)
			}
			break
		}
	}
}

func TestLoopsWithinLoops(t *testing.T) {
	want := turnsOfSome()
	seq := weave.Weave(some()...)
	var outer []turn
	for text, places := range seq {
		outer = append(outer, turn{text, places})
		if inner := gone(seq); !sameTurns(inner, want) {
			t.Errorf("within turn %q: %v", text, inner)
		}
		for range seq {
			break
		}
		weave.Union(texts("z", "y"), texts("x"))
	}
	if !sameTurns(outer, want) {
		t.Errorf("around other loops: %v", outer)
	}
}

func TestLoopsOfSeveralCalls(t *testing.T) {
	first := weave.Weave(some()...)
	second := weave.Weave(texts("z", "y"), texts("y"))
	for range 2 {
		if got := gone(second); !sameTurns(got, []turn{{"y", at(0, 1)}, {"z", at(0)}}) {
			t.Errorf("the second: %v", got)
		}
		if got := gone(first); !sameTurns(got, turnsOfSome()) {
			t.Errorf("the first: %v", got)
		}
	}
}

func TestLoopHasNoHandInTheRows(t *testing.T) {
	l := some()
	seq := weave.Weave(l...)
	for i, row := range l {
		for j := range row {
			row[j] = "changed"
		}
		l[i] = texts("other")
	}
	if got := gone(seq); !sameTurns(got, turnsOfSome()) {
		t.Errorf("rows changed behind the call: %v", got)
	}
}

func TestLoopOverRowsThatItChanges(t *testing.T) {
	l := some()
	var got []turn
	for text, places := range weave.Weave(l...) {
		got = append(got, turn{text, places})
		for i, row := range l {
			clear(row)
			l[i] = append(row[:0], "0", text)
		}
	}
	if !sameTurns(got, turnsOfSome()) {
		t.Errorf("rows changed by the loop: %v", got)
	}
}

func TestPlacesAreTheCallersOwn(t *testing.T) {
	seq := weave.Weave(some()...)
	for range 2 {
		var got []turn
		for text, places := range seq {
			got = append(got, turn{text, slices.Clone(places)})
			for i := range places {
				places[i] = -1
			}
			_ = append(places, -2, -3, -4)
		}
		if !sameTurns(got, turnsOfSome()) {
			t.Errorf("places changed by the loop: %v", got)
		}
	}
	first, second := gone(seq), gone(seq)
	for _, x := range first {
		for i := range x.places {
			x.places[i] = 99
		}
		_ = append(x.places, 98, 97, 96)
	}
	if !sameTurns(second, turnsOfSome()) || !sameTurns(gone(seq), turnsOfSome()) {
		t.Errorf("places changed behind the loop: %v", second)
	}
}

func TestPlacesOfOneTurnAreNoOtherTurns(t *testing.T) {
	for n, want := range turnsOfSome() {
		got := gone(weave.Weave(some()...))
		for i, x := range got {
			if i != n {
				x.places[0] = 99
				_ = append(x.places, 98, 97, 96)
			}
		}
		if !slices.Equal(got[n].places, want.places) {
			t.Errorf("%q has the places of another turn: %v", want.text, got[n].places)
		}
	}
}

func TestLoopsByChanceAreLeft(t *testing.T) {
	c := probe.Chance(160)
	for range 2000 {
		l := rowsByChance(&c, 5, 8, texts("a", "b", "/", "-"))
		want, n := weaveBy(l), 0
		seq := weave.Weave(l...)
		leave := c.Below(len(want) + 2)
		for text, places := range seq {
			if x := want[n]; x.text != text || !slices.Equal(x.places, places) {
				t.Fatalf("Weave(%q): %q %v at turn %d", l, text, places, n)
			}
			if n == leave {
				break
			}
			n++
		}
		if n != min(leave, len(want)) || !sameTurns(gone(seq), want) {
			t.Fatalf("Weave(%q), left at turn %d of %d", l, n, len(want))
		}
	}
}
