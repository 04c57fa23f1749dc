package tree_test

import (
	"slices"
	"strconv"
	"strings"
	"testing"

	"montage/api"
	"montage/probe"
	"montage/tree"
)

// holdCheck asks Check and Of of nodes, and twice; and looks at the nodes behind that.
func holdCheck(t *testing.T, want api.Errno, l ...api.Node) {
	t.Helper()
	handed := slices.Clone(l)
	for range 2 {
		if e := tree.Check(l); e != want {
			t.Errorf("Check(%s): %d, not %d", told(l), e, want)
		}
		holdOf(t, l, want)
	}
	if !slices.Equal(l, handed) {
		t.Errorf("%s were made %s", told(handed), told(l))
	}
}

func holdOf(t *testing.T, l []api.Node, want api.Errno) {
	t.Helper()
	x, e := tree.Of(l)
	if e != want || (x == nil) != (want != api.OK) {
		t.Fatalf("Of(%s): %d, not %d; there is a tree: %v", told(l), e, want, x != nil)
	}
	if want != api.OK {
		return
	}
	holdNodes(t, "All of Of", x.All(), l)
	if x.Len() != len(l) || x.Bytes() != bytesBy(l) {
		t.Errorf("Of(%s) has %d nodes and %d bytes", told(l), x.Len(), x.Bytes())
	}
	again, e := tree.Of(x.All())
	if e != api.OK {
		t.Fatalf("Of of All of Of(%s): %d", told(l), e)
	}
	holdNodes(t, "All of Of of All", again.All(), l)
}

func TestCheckOfOrdinaryNodes(t *testing.T) {
	holdCheck(t, api.OK)
	holdCheck(t, api.OK, []api.Node{}...)
	holdCheck(t, api.OK, file("a", "x"))
	holdCheck(t, api.OK, dir("a"))
	holdCheck(t, api.OK, dir("a"), file("a/b", "x"))
	holdCheck(t, api.OK, dir("a"), dir("a/b"), dir("a/b/c"), file("a/b/c/d", "x"), file("a/b-c", ""), file("a/c", "y"), untold("a-b"), file("b", ""))
	holdCheck(t, api.OK, dir("a"), file("a/b", ""), file("a-b", ""), file("a.b", ""), file("ab", ""))
	holdCheck(t, api.OK, file("é", ""), dir("漢"), file("漢/字", "x"))
}

func TestCheckCountsNodes(t *testing.T) {
	l := []api.Node{}
	for i := range 4097 {
		l = append(l, file(strconv.Itoa(10000+i), "x"))
	}
	holdCheck(t, api.OK, l[:4095]...)
	holdCheck(t, api.OK, l[:4096]...)
	holdCheck(t, api.ErrLimit, l...)
	l[0].Path = ""
	l[1].Mode = -1
	holdCheck(t, api.ErrLimit, l...)
	holdCheck(t, api.ErrPath, l[:4096]...)
	holdCheck(t, api.ErrLimit, make([]api.Node, 4097)...)
	holdCheck(t, api.ErrPath, make([]api.Node, 4096)...)
	holdCheck(t, api.ErrLimit, make([]api.Node, 1<<20)...)
}

func TestCheckLooksAtTheLastOfMany(t *testing.T) {
	l := []api.Node{}
	for i := range 4095 {
		l = append(l, file(strconv.Itoa(10000+i), ""))
	}
	l[0] = file("(a", "")
	for _, row := range []struct {
		n    api.Node
		want api.Errno
	}{
		{file("a", ""), api.OK},
		{file("a/", ""), api.ErrPath},
		{api.Node{Path: "a", Time: -1}, api.ErrArg},
		{file("14094", ""), api.ErrForm},
		{file("14093", ""), api.ErrForm},
		{file("a/b", ""), api.ErrNone},
		{file("14094/b", ""), api.ErrNone},
		{file("b", strings.Repeat("x", 1<<22+1)), api.ErrLimit},
	} {
		holdCheck(t, row.want, append(slices.Clone(l), row.n)...)
	}
	l[0] = file("(É", "")
	l[4094] = file("(é", "")
	slices.SortFunc(l, func(n, m api.Node) int { return strings.Compare(n.Path, m.Path) })
	holdCheck(t, api.ErrCollide, l...)
}

func TestCheckOfPathsThatMayNotBe(t *testing.T) {
	for _, p := range []string{"", "/", "/a", "a/", "a//b", ".", "..", "a/.", "a/../b", "a\\b", "a\x00", "\xff", "a\x7f", strings.Repeat("x", 256), strings.Repeat("a/", 32) + "a"} {
		holdCheck(t, api.ErrPath, file(p, ""))
		holdCheck(t, api.ErrPath, dir(p))
		holdCheck(t, api.ErrPath, file("!", ""), file(p, ""))
		holdCheck(t, api.ErrPath, file(p, ""), file("z", ""))
	}
}

func TestCheckOfNodesThatMayNotBe(t *testing.T) {
	for _, n := range []api.Node{
		{Path: "b", Mode: -1}, {Path: "b", Mode: 512}, {Path: "b", Time: -1}, {Path: "b", Time: 1 << 32}, {Path: "b", Dir: true, Data: "x"},
	} {
		holdCheck(t, api.ErrArg, n)
		holdCheck(t, api.ErrArg, file("a", ""), n)
		holdCheck(t, api.ErrArg, n, file("c", ""))
		holdCheck(t, api.ErrArg, file("a", ""), file("b", ""), n) // b is there already, too
	}
}

func TestCheckOfOrder(t *testing.T) {
	holdCheck(t, api.ErrForm, file("a", "x"), file("a", "x"))
	holdCheck(t, api.ErrForm, file("a", "x"), file("a", "y"))
	holdCheck(t, api.ErrForm, dir("a"), file("a", ""))
	holdCheck(t, api.ErrForm, dir("a"), dir("a"))
	holdCheck(t, api.ErrForm, file("b", ""), file("a", ""))
	holdCheck(t, api.ErrForm, dir("a"), file("a-b", ""), file("a/b", ""))
	holdCheck(t, api.ErrForm, dir("a"), file("a/b", ""), file("a", ""))
	holdCheck(t, api.ErrForm, dir("a"), file("a/c", ""), file("a/b", ""))
	holdCheck(t, api.ErrForm, file("a", ""), file("c", ""), file("b", ""))
	holdCheck(t, api.ErrForm, file("a", ""), file("b", ""), file("a", "")) // not right behind, but twice
	holdCheck(t, api.ErrForm, file("a", ""), file("Z", ""))
	holdCheck(t, api.ErrForm, file("é", ""), file("z", ""))
}

func TestCheckOfWhatIsAheadOfTheLastSlash(t *testing.T) {
	holdCheck(t, api.ErrNone, file("a/b", ""))
	holdCheck(t, api.ErrNone, dir("a/b"))
	holdCheck(t, api.ErrNone, file("a", ""), file("a/b", ""))
	holdCheck(t, api.ErrNone, file("a", ""), dir("a/b"))
	holdCheck(t, api.ErrNone, file("a/b", ""), dir("a")) // a comes later
	holdCheck(t, api.ErrNone, dir("a"), file("a/b/c", ""))
	holdCheck(t, api.ErrNone, dir("a"), file("a/b", ""), file("a/b/c", ""))
	holdCheck(t, api.ErrNone, dir("a"), file("b/c", ""))
	holdCheck(t, api.ErrNone, dir("a"), file("aa/c", ""))
	holdCheck(t, api.ErrNone, dir("aa"), file("ab/c", ""))
	holdCheck(t, api.ErrNone, dir("A"), file("a/b", ""))
	holdCheck(t, api.ErrNone, dir("b"), file("b/b", ""), file("b/b/b", ""))
	holdCheck(t, api.ErrNone, dir("a"), dir("a/b"), dir("a/b/c"), file("a/c/d", ""))
	holdCheck(t, api.OK, dir("a"), dir("a/b"), dir("a/b/c"), file("a/b/d", ""), file("a/c", ""), file("a-", ""))
}

func TestCheckOfPathsThatCollide(t *testing.T) {
	holdCheck(t, api.ErrCollide, file("A", ""), file("a", ""))
	holdCheck(t, api.ErrCollide, dir("A"), dir("a"))
	holdCheck(t, api.ErrCollide, file("A", ""), dir("a"))
	holdCheck(t, api.ErrCollide, file("A", "x"), file("B", "y"), file("a", "x"))
	holdCheck(t, api.ErrCollide, dir("Dir"), file("Dir/x", ""), dir("dir"), file("dir/y", ""))
	holdCheck(t, api.ErrCollide, dir("a"), file("a/B", ""), file("a/b", ""))
	holdCheck(t, api.ErrCollide, file("É", ""), file("é", ""))
	holdCheck(t, api.ErrCollide, dir("a"), file("a/aЯ", ""), file("a/aя", ""))
	holdCheck(t, api.OK, dir("A"), file("A/b", ""), file("B", ""), file("c", ""))
	holdCheck(t, api.OK, dir("a"), file("a/b", ""), file("a-b", ""))
	holdCheck(t, api.OK, file("SS", ""), file("ß", ""))
	holdCheck(t, api.OK, file("E\u0301", ""), file("é", ""))
}

func TestCheckCountsBytes(t *testing.T) {
	most := strings.Repeat("x", 1<<22)
	holdCheck(t, api.OK, file("a", most))
	holdCheck(t, api.OK, file("a", most[1:]), file("b", "x"))
	holdCheck(t, api.OK, file("a", most), file("b", ""), dir("c"))
	holdCheck(t, api.ErrLimit, file("a", most+"x"))
	holdCheck(t, api.ErrLimit, file("a", most), file("b", "x"))
	holdCheck(t, api.ErrLimit, file("a", "x"), dir("b"), file("b/c", most))
	holdCheck(t, api.ErrLimit, file("a", most), file("b", most), file("c", most))
	// What is wrong with a node is told ahead of how many bytes there are.
	holdCheck(t, api.ErrPath, file("a", most), file("b", most), file("", ""))
	holdCheck(t, api.ErrArg, file("a", most), file("b", most), api.Node{Path: "c", Mode: 512})
	holdCheck(t, api.ErrForm, file("a", most+"x"), file("a", ""))
	holdCheck(t, api.ErrNone, file("a", most+"x"), file("a/b", ""))
	holdCheck(t, api.ErrCollide, file("A", most+"x"), file("a", ""))
}

func TestCheckOfEachErrorAloneAndAtTwoNodes(t *testing.T) {
	head := []api.Node{file("A", ""), dir("Z"), file("Z/c", "")}
	alone := map[api.Errno]api.Node{
		api.ErrPath:    file("z/", ""),
		api.ErrArg:     {Path: "z", Mode: -1},
		api.ErrForm:    file("B", ""),
		api.ErrNone:    file("Z/c/d", ""),
		api.ErrCollide: file("a", ""),
	}
	holdCheck(t, api.OK, head...)
	for first, n := range alone {
		holdCheck(t, first, append(slices.Clone(head), n)...)
		holdCheck(t, first, append(slices.Clone(head), n, file("zz", ""))...)
		for _, m := range alone {
			holdCheck(t, first, append(slices.Clone(head), n, m)...)
		}
	}
}

func TestCheckOfSeveralErrorsAtOneNode(t *testing.T) {
	long := strings.Repeat("x", 1<<22+1)
	for _, row := range []struct {
		n    api.Node
		want api.Errno
	}{
		{api.Node{Path: "", Mode: -1, Data: long}, api.ErrPath},                       // all of them, but that it collides
		{api.Node{Path: "a/", Mode: 512}, api.ErrPath},                                // a directory's name, and its mode
		{api.Node{Path: "b/c", Mode: 512, Data: long}, api.ErrArg},                    // not behind, no directory ahead
		{api.Node{Path: "B", Time: -1}, api.ErrArg},                                   // it collides, too
		{api.Node{Path: "K/x/y", Data: long}, api.ErrForm},                            // no directory ahead
		{api.Node{Path: "I", Data: long}, api.ErrForm},                                // it collides, too
		{api.Node{Path: "ii/x", Data: long}, api.ErrNone},                             // it collides, too
		{api.Node{Path: "ii", Data: long}, api.ErrCollide},                            // too many bytes
		{api.Node{Path: "j", Dir: true, Data: long}, api.ErrArg},                      // a directory with bytes
		{api.Node{Path: "j", Data: long}, api.ErrLimit},                               // these alone
		{api.Node{Path: strings.Repeat("j", 256), Dir: true, Data: "x"}, api.ErrPath}, // a part that is too long
	} {
		head := []api.Node{dir("II"), file("II/x", ""), file("b", ""), file("i", "")}
		holdCheck(t, row.want, append(head, row.n)...)
	}
}

// pool are nodes that make trees, and such as don't, when they are put in a row.
func pool() []api.Node {
	return []api.Node{
		file("A", "x"), dir("A"), dir("a"), file("a", ""), file("a/b", "y"), dir("a/b"), file("a/B", ""), file("a/b/c", "z"), file("a-b", ""),
		file("", ""), {Path: "a", Mode: 512}, {Path: "a/..", Time: -1},
	}
}

func TestCheckOfRowsAgainstTheWords(t *testing.T) {
	l := pool()
	row := make([]api.Node, 4)
	for i := range len(l) * len(l) * len(l) * len(l) {
		for k := range row {
			row[k] = l[i%len(l)]
			i /= len(l)
		}
		for many := range 5 {
			if got, want := tree.Check(row[:many]), checkBy(row[:many]); got != want {
				t.Fatalf("Check(%s): %d, not %d", told(row[:many]), got, want)
			}
		}
	}
}

func TestCheckByChance(t *testing.T) {
	c := probe.Chance(15)
	seen := map[api.Errno]int{}
	for range 20000 {
		l := []api.Node{}
		for _, n := range pool()[:9] {
			if c.Below(2) == 0 {
				l = append(l, n)
			}
		}
		l = append(l, file("b", "x"), dir("c"), file("c/d", ""), file("c/d-e", ""))
		if c.Below(3) == 0 {
			i, k := c.Below(len(l)), c.Below(len(l))
			l[i], l[k] = l[k], l[i]
		}
		if c.Below(3) == 0 {
			l[c.Below(len(l))] = pool()[c.Below(12)]
		}
		want := checkBy(l)
		seen[want]++
		holdCheck(t, want, l...)
	}
	for _, e := range []api.Errno{api.OK, api.ErrPath, api.ErrArg, api.ErrForm, api.ErrNone, api.ErrCollide} {
		if seen[e] < 50 {
			t.Errorf("error %d came %d times alone", e, seen[e])
		}
	}
}

func TestOfKeepsNothing(t *testing.T) {
	l := []api.Node{dir("a"), file("a/b", "x"), file("c", "y")}
	want := slices.Clone(l)
	x, _ := tree.Of(l)
	y, _ := tree.Of(l)
	l[1] = file("q", "z")
	holdNodes(t, "All", x.All(), want)
	x.Put(file("d", ""))
	x.Remove("a")
	x.Put(file("c", "z"))
	holdNodes(t, "All of another tree of these", y.All(), want)
	if l[0] != want[0] || l[1] != file("q", "z") || l[2] != want[2] {
		t.Errorf("the list was made %s", told(l))
	}
}
