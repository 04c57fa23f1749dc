package tree_test

import (
	"strings"
	"testing"

	"montage/api"
)

func TestRemoveOfOrdinaryPaths(t *testing.T) {
	b := grown(t, file("a", "x"), file("b/c/d", "y"), file("b/e", "z"), dir("f"))
	b.remove("a", 1)
	b.remove("f", 1)
	b.has("b/ b/c/ b/c/d b/e ")
	b.remove("b/c", 2)
	b.has("b/ b/e ")
	b.remove("b", 2)
	b.has("")
	b.remove("b", 0)
}

func TestRemoveLeavesWhatBeginsLikeIt(t *testing.T) {
	b := grown(t, file("a/b", "1"), file("a/b.c", "2"), file("a-b", "3"), file("a.b/c", "4"), file("ab", "5"), file("a0/b", "6"), file("b/a/b", "7"))
	b.remove("a/b", 1)
	b.has("a/ a/b.c a-b a.b/ a.b/c a0/ a0/b ab b/ b/a/ b/a/b ")
	b.remove("a", 2)
	b.has("a-b a.b/ a.b/c a0/ a0/b ab b/ b/a/ b/a/b ")
	b.remove("a.b", 2)
	b.remove("b/a", 2)
	b.has("a-b a0/ a0/b ab b/ ")
}

func TestRemoveOfWhatIsNotThere(t *testing.T) {
	b := grown(t, file("a", "x"), file("b/c", "y"))
	before := b.x.All()
	for _, p := range []string{
		"", "/", "//", "b/", "/b", "b//c", "./b", "b/.", "b/..", "..", ".", "A", "a/b", "b/c/d", "b/d", "bc", "c", "q", "\xff", "b\\c",
		strings.Repeat("b/", 40) + "c", strings.Repeat("x", 2000),
	} {
		b.remove(p, 0)
		holdNodes(t, "All", b.x.All(), before)
	}
	b = grown(t)
	b.remove("", 0)
	b.remove("a", 0)
}

func TestRemoveOfManyParts(t *testing.T) {
	p := strings.Repeat("a/", 31) + "a"
	b := grown(t, file(p, "x"), file("a/b", ""))
	b.remove(p, 1)
	b.remove("a/a/a", 29)
	b.has("a/ a/a/ a/b ")
	b.remove("a", 3)
}

func TestClearOfOrdinaryPaths(t *testing.T) {
	b := grown(t, file("a", "x"), file("b/c/d", "y"), file("b/e", "z"), dir("f"))
	b.clear("b/c", 1)
	b.has("a b/ b/c/ b/e f/ ")
	b.clear("b", 2)
	b.has("a b/ f/ ")
	b.clear("b", 0)
	b.clear("a", 0)
	b.clear("f", 0)
	b.has("a b/ f/ ")
}

func TestClearLeavesADirectoryAsItWas(t *testing.T) {
	b := grown(t, dir("a"), file("a/b", "x"))
	b.clear("a", 1)
	holdNodes(t, "All", b.x.All(), []api.Node{dir("a")})
}

func TestClearOfAll(t *testing.T) {
	b := grown(t, file("a", "x"), file("b/c/d", "y"), file("b/e", "z"), dir("f"))
	b.clear("", 6)
	b.has("")
	b.clear("", 0)
	b.put(file("a/b", ""), api.OK)
	b.clear("", 2)
}

func TestClearLeavesWhatBeginsLikeIt(t *testing.T) {
	b := grown(t, file("a/b/c", "1"), file("a/b.c", "2"), file("a-b/c", "3"), file("a.b/c", "4"), file("ab/c", "5"), file("A/b/c", "6"))
	b.clear("a/b", 1)
	b.clear("a", 2)
	b.has("A/ A/b/ A/b/c a/ a-b/ a-b/c a.b/ a.b/c ab/ ab/c ")
}

func TestClearOfWhatIsNotThere(t *testing.T) {
	b := grown(t, file("a", "x"), file("b/c", "y"))
	before := b.x.All()
	for _, p := range []string{
		"/", "//", "b/", "/b", "b//", "./b", "b/.", "b/..", "..", ".", "A", "B", "a/b", "b/c", "b/c/d", "b/d", "c", "q", "\xff",
		strings.Repeat("b/", 40) + "c", strings.Repeat("x", 2000),
	} {
		b.clear(p, 0)
		holdNodes(t, "All", b.x.All(), before)
	}
	b = grown(t)
	b.clear("a", 0)
}

func TestRemoveAndClearOfMany(t *testing.T) {
	b := many(t, 4096)
	b.remove("14095", 1)
	b.remove("10000", 1)
	b.remove("12000", 1)
	b.remove("", 0)
	b.clear("10001", 0)
	b.clear("", 4093)
	b.put(file("a/b", "x"), api.OK)
	b.has("a/ a/b ")
}
