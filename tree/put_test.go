package tree_test

import (
	"math"
	"slices"
	"strconv"
	"strings"
	"testing"

	"montage/api"
	"montage/tree"
)

func TestPutOfOrdinaryNodes(t *testing.T) {
	b := grown(t)
	b.has("")
	b.put(file("b", "x"), api.OK)
	b.put(file("a", "yy"), api.OK)
	b.put(dir("c"), api.OK)
	b.put(file("c/d", "zzz"), api.OK)
	b.has("a b c/ c/d ")
	b.put(file("b", "again"), api.OK)
	b.put(dir("e/f"), api.OK)
	b.has("a b c/ c/d e/ e/f/ ")
	holdPlace(t, b.x, b.w, "b")
	holdPlace(t, b.x, b.w, "e")
}

func TestPutMakesDirectoriesThatNobodyToldOf(t *testing.T) {
	b := grown(t, file("a/b", "x"))
	holdNodes(t, "All", b.x.All(), []api.Node{{Path: "a", Dir: true, Mode: 493}, file("a/b", "x")})
	b = grown(t, dir("a/b/c"))
	holdNodes(t, "All", b.x.All(), []api.Node{untold("a"), untold("a/b"), dir("a/b/c")})
	b.put(dir("a/b"), api.OK)
	b.put(file("a/b/d", ""), api.OK) // what was told of a/b stays
	holdNodes(t, "All", b.x.All(), []api.Node{untold("a"), dir("a/b"), dir("a/b/c"), file("a/b/d", "")})
}

func TestPutOfAFileWhereADirectoryIs(t *testing.T) {
	b := grown(t, file("a/b", "x"), file("a/c/d", "y"), file("a-b", "z"), file("a.b/c", ""), file("ab", ""), file("b/a", ""))
	b.put(file("a", "w"), api.OK)
	b.has("a a-b a.b/ a.b/c ab b/ b/a ")
	b = grown(t, dir("a"))
	b.put(file("a", ""), api.OK)
	b = grown(t, file("a/b/c/d", "x"), file("a/b-c", ""), file("a/bc/d", ""))
	b.put(file("a/b", ""), api.OK)
	b.has("a/ a/b a/b-c a/bc/ a/bc/d ")
}

func TestPutOfADirectoryWhereAFileIs(t *testing.T) {
	b := grown(t, file("a", "x"), file("b/c", "y"))
	b.put(dir("a"), api.OK)
	b.put(dir("b/c"), api.OK)
	b.has("a/ b/ b/c/ ")
	holdNodes(t, "All", b.x.All(), []api.Node{dir("a"), untold("b"), dir("b/c")})
}

func TestPutOfADirectoryWhereADirectoryIs(t *testing.T) {
	b := grown(t, file("a/b/c", "x"), file("a/d", "y"))
	b.put(dir("a"), api.OK)
	holdNodes(t, "All", b.x.All(), []api.Node{dir("a"), untold("a/b"), file("a/b/c", "x"), file("a/d", "y")})
	b.put(dir("a/b"), api.OK)
	b.put(api.Node{Path: "a", Dir: true, Mode: 0, Time: 0}, api.OK)
	holdNodes(t, "All", b.x.All(), []api.Node{{Path: "a", Dir: true}, dir("a/b"), file("a/b/c", "x"), file("a/d", "y")})
}

func TestPutUnderAFile(t *testing.T) {
	b := grown(t, file("a", "x"), file("a-b", "y"))
	b.put(file("a/b", "z"), api.OK)
	b.has("a/ a/b a-b ")
	holdNodes(t, "All", b.x.All(), []api.Node{untold("a"), file("a/b", "z"), file("a-b", "y")})
	b.put(dir("a/b/c/d"), api.OK)
	b.has("a/ a/b/ a/b/c/ a/b/c/d/ a-b ")
	b.put(file("a-b/c/d", ""), api.OK)
	b.has("a/ a/b/ a/b/c/ a/b/c/d/ a-b/ a-b/c/ a-b/c/d ")
}

func TestPutOfNamesThatBeginWithAnotherOnes(t *testing.T) {
	names := []string{"a", "a.b", "a/b", "a-b", "ab", "a/b/c", "a/b.c", "a b"}
	for _, first := range names {
		for _, second := range names {
			for _, third := range names {
				b := grown(t, file(first, "1"), file(second, "2"), dir(first), file(third, "3"))
				b.remove(second, len(b.w.nodes)-lenWithout(b.w, second))
			}
		}
	}
}

// lenWithout answers how many nodes there would be without a path and what is under it.
func lenWithout(w *words, p string) int {
	left := words{w.nodes}
	left.remove(p)
	return len(left.nodes)
}

func TestPutOfManyParts(t *testing.T) {
	p := strings.Repeat("a/", 31) + "a"
	b := grown(t, file(p, "x"))
	if b.x.Len() != 32 {
		t.Errorf("%d nodes", b.x.Len())
	}
	b.put(dir(strings.Repeat("b/", 31)+"b"), api.OK)
	b.put(file(strings.Repeat("a/", 30)+"a", "y"), api.OK) // p's directory is a file
	b.put(file(p, "z"), api.OK)
	b.put(file("a", "y"), api.OK)
	if b.x.Len() != 33 {
		t.Errorf("%d nodes", b.x.Len())
	}
	b.put(file(p+"/a", ""), api.ErrPath)
	b.put(file(strings.Repeat("c/", 32)+"c", ""), api.ErrPath)
	b.put(file(strings.Repeat(strings.Repeat("x", 255)+"/", 3)+strings.Repeat("y", 254)+"/z", "x"), api.OK)
}

func TestPutOfWhatMayNotBe(t *testing.T) {
	b := grown(t, file("a", "x"), file("b/c", "y"))
	for _, p := range []string{"", "/", "/a", "a/", "b//c", ".", "..", "b/..", "a\\b", "\xff", "a\n", strings.Repeat("x", 256)} {
		b.put(file(p, "x"), api.ErrPath)
		b.put(dir(p), api.ErrPath)
		b.put(api.Node{Path: p, Mode: -1}, api.ErrPath)
		b.put(api.Node{Path: p, Dir: true, Data: "x"}, api.ErrPath)
	}
	for _, p := range []string{"a", "b", "b/c", "a/b", "q/r/s"} {
		for _, wrong := range []int{-1, math.MinInt, math.MaxInt} {
			b.put(api.Node{Path: p, Mode: wrong}, api.ErrArg)
			b.put(api.Node{Path: p, Time: wrong}, api.ErrArg)
		}
		b.put(api.Node{Path: p, Mode: 512}, api.ErrArg)
		b.put(api.Node{Path: p, Time: 1 << 32}, api.ErrArg)
		b.put(api.Node{Path: p, Dir: true, Data: "x"}, api.ErrArg)
		b.put(api.Node{Path: p, Dir: true, Mode: 512}, api.ErrArg)
	}
	b.has("a b/ b/c ")
	b.put(api.Node{Path: "a", Mode: 511, Time: 1<<32 - 1}, api.OK)
	b.put(api.Node{Path: "a", Dir: true}, api.OK)
}

func TestPutAsksForNoFewerBytes(t *testing.T) {
	most := strings.Repeat("x", 1<<22)
	b := grown(t, file("a", most), file("b", most), file("c", most+"x"))
	if b.x.Bytes() != 3<<22+1 {
		t.Errorf("%d bytes", b.x.Bytes())
	}
	b.put(file("b", ""), api.OK)
	b.put(file("c", ""), api.OK)
	if b.x.Bytes() != 1<<22 {
		t.Errorf("%d bytes", b.x.Bytes())
	}
}

func TestPutOfPathsThatCollide(t *testing.T) {
	b := grown(t, file("a", "1"), file("A", "2"), dir("É"), file("é/x", ""), file("b/c", ""), file("B/c", ""))
	b.has("A B/ B/c a b/ b/c É/ é/ é/x ")
}

// many answers a tree of so many files, by numbers.
func many(t *testing.T, n int) both {
	t.Helper()
	l := []api.Node{}
	for i := range n {
		l = append(l, file(strconv.Itoa(10000+i), "x"))
	}
	x, e := tree.Of(l)
	if e != api.OK {
		t.Fatalf("a tree of %d: %d", n, e)
	}
	return both{t, x, &words{l}}
}

func TestPutCountsNodes(t *testing.T) {
	b := many(t, 4095)
	b.put(file("a/b", ""), api.ErrLimit)
	b.put(dir("a/b"), api.ErrLimit)
	b.put(file("a/b/c/d", ""), api.ErrLimit)
	b.put(file("10007/a/b", ""), api.ErrLimit) // 10007, a file, isn't made a directory either
	b.put(file("10007/a", "y"), api.OK)        // 4096
	b.put(file("10008/a", ""), api.ErrLimit)
	b.put(file("10007/b", ""), api.ErrLimit)
	b.put(file("10007/a/b", ""), api.ErrLimit)
	b.put(file("a", ""), api.ErrLimit)
	b.put(dir("a"), api.ErrLimit)
	b.put(file("10000", "y"), api.OK)
	b.put(dir("10001"), api.OK)
	b.put(dir("10007/a"), api.OK)
	b.put(dir("10007"), api.OK)
	b.put(file("10007", ""), api.OK) // 4095
	b.put(file("a", ""), api.OK)
	b.put(file("", ""), api.ErrPath)
	b.put(api.Node{Path: "b", Mode: -1}, api.ErrArg)
	if b.x.Len() != 4096 {
		t.Errorf("%d nodes", b.x.Len())
	}
}

func TestPutOfManyPartsCountsNodes(t *testing.T) {
	p := strings.Repeat("a/", 31) + "a"
	b := many(t, 4064)
	b.put(file(p+"a", "x"), api.OK) // 4096
	b = many(t, 4065)
	b.put(file(p+"a", "x"), api.ErrLimit)
	b.put(dir(p), api.ErrLimit)
	b.put(file(p[2:], "x"), api.OK)
	b.put(file(p[2:]+"/b", "x"), api.ErrLimit)
	b = many(t, 4096)
	b.put(file(p, "x"), api.ErrLimit)
	b.ensure(p, api.ErrLimit)
	b.remove("10000", 1)
	b.put(dir("a"), api.OK)
}

func TestEnsureOfOrdinaryPaths(t *testing.T) {
	b := grown(t)
	b.ensure("a", api.OK)
	b.ensure("b/c/d", api.OK)
	b.has("a/ b/ b/c/ b/c/d/ ")
	holdNodes(t, "All", b.x.All(), []api.Node{untold("a"), untold("b"), untold("b/c"), untold("b/c/d")})
	b.ensure("b/c", api.OK)
	b.ensure("b/d", api.OK)
	b.has("a/ b/ b/c/ b/c/d/ b/d/ ")
}

func TestEnsureLeavesDirectoriesAsTheyAre(t *testing.T) {
	b := grown(t, dir("a"), dir("a/b"), file("a/b/c", "x"), file("a/d", "y"))
	before := b.x.All()
	for _, p := range []string{"a", "a/b"} {
		b.ensure(p, api.OK)
		holdNodes(t, "All", b.x.All(), before)
	}
	b.ensure("a/b/e/f", api.OK)
	holdNodes(t, "All", b.x.All(), []api.Node{dir("a"), dir("a/b"), file("a/b/c", "x"), untold("a/b/e"), untold("a/b/e/f"), file("a/d", "y")})
}

func TestEnsureInThePlaceOfFiles(t *testing.T) {
	b := grown(t, file("a", "x"), file("b/c", "y"), file("a-b", "z"))
	b.ensure("a", api.OK)
	b.ensure("b/c/d", api.OK)
	holdNodes(t, "All", b.x.All(), []api.Node{untold("a"), file("a-b", "z"), untold("b"), untold("b/c"), untold("b/c/d")})
	b.ensure("a-b/c", api.OK)
	b.has("a/ a-b/ a-b/c/ b/ b/c/ b/c/d/ ")
	if b.x.Bytes() != 0 {
		t.Errorf("%d bytes", b.x.Bytes())
	}
}

func TestEnsureOfManyParts(t *testing.T) {
	p := strings.Repeat("a/", 31) + "a"
	b := grown(t)
	b.ensure(p, api.OK)
	if b.x.Len() != 32 {
		t.Errorf("%d nodes", b.x.Len())
	}
	b.ensure(p+"/a", api.ErrPath)
	b.put(file("a/a", ""), api.OK)
	b.ensure(p, api.OK)
}

func TestEnsureOfPathsThatMayNotBe(t *testing.T) {
	b := grown(t, file("a", "x"), file("b/c", "y"))
	for _, p := range []string{"", "/", "/a", "a/", "a//b", "b/", ".", "..", "a/.", "b/..", "q/./r", "a\\b", "\xff", "a\x1f", strings.Repeat("x", 256), "q/" + strings.Repeat("x", 256)} {
		b.ensure(p, api.ErrPath)
	}
	b.has("a b/ b/c ")
}

func TestEnsureCountsNodes(t *testing.T) {
	b := many(t, 4094)
	b.ensure("a/b/c", api.ErrLimit)
	b.ensure("10000/b/c/d", api.ErrLimit)
	b.ensure("10000/b/c", api.OK) // 4096
	b.ensure("10000/b/c", api.OK)
	b.ensure("10000/b", api.OK)
	b.ensure("10001", api.OK)
	b.ensure("10000/b/d", api.ErrLimit)
	b.ensure("10000/b/c/d", api.ErrLimit)
	b.ensure("10002/a", api.ErrLimit)
	b.ensure("a", api.ErrLimit)
	b.ensure("", api.ErrPath)
	b.ensure("a/", api.ErrPath)
}

// A refused call says the same again, and so does the one behind it.
func TestPutAndEnsureRefusedAgain(t *testing.T) {
	b := many(t, 4096)
	before := b.x.All()
	for range 3 {
		b.put(file("a", ""), api.ErrLimit)
		b.ensure("10000/a", api.ErrLimit)
		b.put(file("..", ""), api.ErrPath)
		b.put(api.Node{Path: "10000", Time: -1}, api.ErrArg)
	}
	if !slices.Equal(b.x.All(), before) {
		t.Error("refused calls changed nodes")
	}
}
