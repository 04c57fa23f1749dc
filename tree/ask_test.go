package tree_test

import (
	"slices"
	"strings"
	"testing"

	"montage/api"
	"montage/probe"
	"montage/tree"
)

func TestAskOfAnEmptyTree(t *testing.T) {
	x := tree.New()
	of, e := tree.Of(nil)
	if e != api.OK {
		t.Fatalf("Of of nothing: %d", e)
	}
	emptied := tree.New()
	emptied.Put(file("a/b", "x"))
	emptied.Clear("")
	for _, x := range []*tree.Tree{x, of, emptied} {
		w := &words{}
		holdTree(t, x, w)
		for _, p := range []string{"", "a", "a/b", "/", "..", "\xff"} {
			holdPlace(t, x, w, p)
		}
	}
	if x == tree.New() {
		t.Error("New answers one tree twice")
	}
}

func TestGetOfWhatIsThere(t *testing.T) {
	b := grown(t, file("a/b", "x"), dir("c"), file("d", ""), api.Node{Path: "e", Data: "\x00\xff", Mode: 511, Time: 1<<32 - 1})
	for _, row := range []api.Node{
		untold("a"), file("a/b", "x"), dir("c"), file("d", ""), {Path: "e", Data: "\x00\xff", Mode: 511, Time: 1<<32 - 1},
	} {
		if n, ok := b.x.Get(row.Path); n != row || !ok {
			t.Errorf("Get(%q): %v, %v", row.Path, n, ok)
		}
	}
}

func TestGetOfWhatIsNotThere(t *testing.T) {
	b := grown(t, file("a/b", "x"), dir("c"), file("d", ""))
	for _, p := range []string{
		"", "/", "a/", "/a", "a//b", "a/b/", "./a", "a/.", "a/..", ".", "..", "A", "a/B", "a/b/c", "b", "ab", "a-b", "c/d", "e", "\xff",
		"a\x00", strings.Repeat("a/", 40), strings.Repeat("x", 2000),
	} {
		if n, ok := b.x.Get(p); n != (api.Node{}) || ok {
			t.Errorf("Get(%.60q): %v, %v", p, n, ok)
		}
		holdPlace(t, b.x, b.w, p)
	}
}

func TestListOfPlaces(t *testing.T) {
	b := grown(t, file("a/b/c", "1"), file("a/d", "2"), dir("a/b-c"), file("a/b.c/d", "3"), file("a-b/x", "4"), file("e", "5"), dir("f"))
	for p, want := range map[string]string{
		"": "a/ a-b/ e f/ ", "a": "a/b/ a/b-c/ a/b.c/ a/d ", "a/b": "a/b/c ", "a/b-c": "", "a/b.c": "a/b.c/d ", "a-b": "a-b/x ",
		"a/d": "", "e": "", "f": "", "A": "", "a/": "", "/": "", "/a": "", "a/b/": "", "a/b/c": "", ".": "", "..": "", "\xff": "", "q": "", "ab": "",
	} {
		if got := told(b.x.List(p)); got != want {
			t.Errorf("List(%q): %s, not %s", p, got, want)
		}
		holdPlace(t, b.x, b.w, p)
	}
	holdNodes(t, "List of a", b.x.List("a"), []api.Node{untold("a/b"), dir("a/b-c"), untold("a/b.c"), file("a/d", "2")})
}

func TestLenAndBytes(t *testing.T) {
	b := grown(t, file("a/b", "12345"), file("c", ""), file("d", "é"))
	if b.x.Len() != 4 || b.x.Bytes() != 7 {
		t.Errorf("%d nodes, %d bytes", b.x.Len(), b.x.Bytes())
	}
	b.put(file("a/b", "1"), api.OK)
	b.put(file("d/e", "xx"), api.OK)
	if b.x.Len() != 5 || b.x.Bytes() != 3 {
		t.Errorf("%d nodes, %d bytes", b.x.Len(), b.x.Bytes())
	}
}

func TestCollisionTellsTheFirstInOrder(t *testing.T) {
	for _, row := range []struct {
		paths []string
		want  string
	}{
		{[]string{"a", "b", "c"}, ""},
		{[]string{"a", "A"}, "a"},
		{[]string{"A", "a"}, "a"},
		{[]string{"B", "a", "b", "A"}, "a"},
		{[]string{"C", "c", "B", "b"}, "b"},
		{[]string{"b/x", "b/X", "a/y", "a/Y"}, "a/y"},
		{[]string{"Dir/x", "dir/y"}, "dir"},
		{[]string{"Dir/x", "dir/X"}, "dir"},
		{[]string{"d/B", "d/b", "D"}, "d"},
		{[]string{"d/B/c", "d/b-c", "d/b"}, "d/b"},
		{[]string{"é", "É", "z", "Z"}, "z"},
		{[]string{"é", "É"}, "é"},
		{[]string{"AB", "Ab", "aB", "ab"}, "Ab"},
		{[]string{"a", "B/a", "c/A"}, ""},
		{[]string{"ß", "SS", "ss/x"}, "ss"},
	} {
		for range 2 {
			b := grown(t)
			for _, p := range row.paths {
				b.put(file(p, ""), api.OK)
			}
			if p, ok := b.x.Collision(); p != row.want || ok != (row.want != "") {
				t.Errorf("Collision of %q: %q, %v", row.paths, p, ok)
			}
			slices.Reverse(row.paths)
		}
	}
}

func TestCollisionGoesWithItsPath(t *testing.T) {
	b := grown(t, file("A", ""), file("a/b", ""), file("C", ""), file("c", ""))
	for _, row := range []struct{ gone, want string }{{"", "a"}, {"A", "c"}, {"c", ""}} {
		b.x.Remove(row.gone)
		if p, ok := b.x.Collision(); p != row.want || ok != (row.want != "") {
			t.Errorf("Collision without %q: %q, %v", row.gone, p, ok)
		}
	}
}

func TestCollisionOfMany(t *testing.T) {
	b := many(t, 4094)
	b.put(file("a", ""), api.OK)
	b.put(file("A", ""), api.OK)
	if p, ok := b.x.Collision(); p != "a" || !ok {
		t.Errorf("Collision: %q, %v", p, ok)
	}
}

// What was answered stays what it was, whatever is done with the tree behind that.
func TestAnswersStayAsTheyWere(t *testing.T) {
	steps := []func(x *tree.Tree){
		func(x *tree.Tree) { x.Put(file("a/b", "new")) },
		func(x *tree.Tree) { x.Put(file("a", "new")) },
		func(x *tree.Tree) { x.Put(file("0", "new")) },
		func(x *tree.Tree) { x.Put(dir("a")) },
		func(x *tree.Tree) { x.Ensure("a/b/q") },
		func(x *tree.Tree) { x.Ensure("0/1") },
		func(x *tree.Tree) { x.Remove("a") },
		func(x *tree.Tree) { x.Remove("d") },
		func(x *tree.Tree) { x.Clear("a") },
		func(x *tree.Tree) { x.Clear("") },
	}
	for _, step := range steps {
		b := grown(t, file("a/b", "1"), file("a/c/d", "2"), file("d", "3"), file("e", "4"))
		all, list, top := b.x.All(), b.x.List("a"), b.x.List("")
		wantAll, wantList, wantTop := slices.Clone(all), slices.Clone(list), slices.Clone(top)
		step(b.x)
		step(b.x)
		holdNodes(t, "All, kept", all, wantAll)
		holdNodes(t, "List of a, kept", list, wantList)
		holdNodes(t, "List of all, kept", top, wantTop)
	}
}

func TestAnswersAreTheCallersOwn(t *testing.T) {
	b := grown(t, file("a/b", "1"), file("a/c/d", "2"), file("d", "3"))
	for range 2 {
		for _, l := range [][]api.Node{b.x.All(), b.x.List("a"), b.x.List("")} {
			longer := append(l, file("zz", "spoilt"))
			for i := range longer {
				longer[i] = api.Node{Path: "spoilt", Mode: -1}
			}
			for i := range l {
				l[i] = api.Node{Path: "spoilt"}
			}
		}
		holdTree(t, b.x, b.w)
		b.put(file("e", ""), api.OK)
		b.remove("e", 1) // what the tree has is longer now than what it says
	}
}

func TestOfANilTree(t *testing.T) {
	var x *tree.Tree
	for range 2 {
		for _, n := range []api.Node{{}, file("a", "x"), dir("a/b"), {Path: "a", Mode: -1}, file("..", "")} {
			if e := x.Put(n); e != api.ErrArg {
				t.Errorf("Put(%q): %d", n.Path, e)
			}
		}
		for _, p := range []string{"", "a", "a/b", "/", "..", "\xff"} {
			if e := x.Ensure(p); e != api.ErrArg {
				t.Errorf("Ensure(%q): %d", p, e)
			}
			if r, c := x.Remove(p), x.Clear(p); r != 0 || c != 0 {
				t.Errorf("Remove(%q), Clear: %d, %d", p, r, c)
			}
			if n, ok := x.Get(p); n != (api.Node{}) || ok {
				t.Errorf("Get(%q): %v, %v", p, n, ok)
			}
			if l := x.List(p); len(l) != 0 {
				t.Errorf("List(%q): %s", p, told(l))
			}
		}
		if l := x.All(); len(l) != 0 || x.Len() != 0 || x.Bytes() != 0 {
			t.Errorf("All %s, Len %d, Bytes %d", told(l), x.Len(), x.Bytes())
		}
		if p, ok := x.Collision(); p != "" || ok {
			t.Errorf("Collision: %q, %v", p, ok)
		}
	}
}

func TestTwoTreesShareNothing(t *testing.T) {
	b, c := grown(t, file("a/b", "1")), grown(t, file("a/b", "2"))
	b.put(file("c", "3"), api.OK)
	c.remove("a", 2)
	b.has("a/ a/b c ")
	c.has("")
}

// places are the paths that calls by chance are of: most that may be, and some that
// may not, or are alike.
func places() []string {
	return []string{
		"a", "b", "a/a", "a/b", "a/a/a", "a/a/b", "a/b/a", "a-b", "a.b", "a.b/a", "A", "A/a", "a/A", "b/a", "b/é", "b/É", "B", "a/a-b",
		"", "/", "a/", "..", "a//b", "\xff",
	}
}

func TestCallsByChance(t *testing.T) {
	c := probe.Chance(1515)
	for range 150 {
		b := grown(t)
		for range 80 {
			callByChance(&c, b)
			holdPlace(t, b.x, b.w, places()[c.Below(len(places()))])
		}
	}
}

// callByChance does one of the calls that change a tree, of one of the places.
func callByChance(c *probe.Chance, b both) {
	b.t.Helper()
	p := places()[c.Below(len(places()))]
	n := api.Node{Path: p, Mode: c.Below(520) - 4, Time: c.Below(100) - 1}
	if c.Below(2) == 0 {
		n.Dir = true
	}
	if !n.Dir || c.Below(8) == 0 {
		n.Data = strings.Repeat("x", c.Below(4))
	}
	after := words{b.w.nodes}
	switch c.Below(8) {
	case 0:
		b.ensure(p, after.ensure(p))
	case 1:
		b.remove(p, after.remove(p))
	case 2:
		if c.Below(4) == 0 {
			b.clear(p, after.takeUnder(p))
		}
	default:
		b.put(n, after.put(n))
	}
}
