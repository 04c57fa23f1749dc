package route_test

import (
	"strings"
	"testing"

	"montage/api"
	"montage/probe"
	"montage/route"
)

// holdNormal asks Normal of a name, whether the path may be, and whether it comes of
// itself again.
func holdNormal(t *testing.T, name, path string, dir bool, e api.Errno) {
	t.Helper()
	for range 2 {
		if p, d, f := route.Normal(name); p != path || d != dir || f != e {
			t.Errorf("Normal(%.60q) of %d bytes: %.60q %v %d, not %.60q %v %d", name, len(name), p, d, f, path, dir, e)
		}
	}
	if e != api.OK {
		return
	}
	p, _, _ := route.Normal(name)
	if f := route.Check(p); f != api.OK {
		t.Errorf("Normal(%.60q) is %.60q: %d", name, p, f)
	}
	if again, d, f := route.Normal(p); again != p || d || f != api.OK {
		t.Errorf("Normal(%.60q), which came of a name: %.60q %v %d", p, again, d, f)
	}
}

func TestNormalOfOrdinaryNames(t *testing.T) {
	holdNormal(t, "a/./b//", "a/b", true, api.OK)
	holdNormal(t, "a", "a", false, api.OK)
	holdNormal(t, "a/", "a", true, api.OK)
	holdNormal(t, "a/b", "a/b", false, api.OK)
	holdNormal(t, "a/b/", "a/b", true, api.OK)
	holdNormal(t, "./a", "a", false, api.OK)
	holdNormal(t, "é/漢/😀.txt", "é/漢/😀.txt", false, api.OK)
	holdNormal(t, "a/.wh.b", "a/.wh.b", false, api.OK)
}

func TestNormalTakesOutEmptyPartsAndDots(t *testing.T) {
	for _, n := range []int{1, 2, 3, 32, 33, 500, 2000} {
		dots, gaps := strings.Repeat("./", n), strings.Repeat("/", n)
		holdNormal(t, dots+"a", "a", false, api.OK)
		holdNormal(t, dots+"a/", "a", true, api.OK)
		holdNormal(t, "a/"+dots+"b", "a/b", false, api.OK)
		holdNormal(t, "a/"+dots+"b/"+dots+"c", "a/b/c", false, api.OK)
		holdNormal(t, "a/"+dots, "a", true, api.OK)
		holdNormal(t, "a/"+dots+".", "a", false, api.OK)
		holdNormal(t, "a"+gaps+"b", "a/b", false, api.OK)
		holdNormal(t, "a"+gaps, "a", true, api.OK)
		holdNormal(t, "a"+gaps+".", "a", false, api.OK)
		holdNormal(t, "."+gaps+"a", "a", false, api.OK)
		holdNormal(t, "."+gaps+"a"+gaps+"."+gaps+"b"+gaps, "a/b", true, api.OK)
		holdNormal(t, "a"+strings.Repeat("/.", n), "a", false, api.OK)
		holdNormal(t, "a"+strings.Repeat("/.//", n)+"b", "a/b", false, api.OK)
	}
}

func TestNormalKeepsOtherPartsWithDots(t *testing.T) {
	for _, part := range []string{"...", "....", ".a", "..a", "a.", "a..", ". ", " ."} {
		for _, p := range spots(part) {
			holdNormal(t, p, p, false, api.OK)
			holdNormal(t, "./"+p+"//", p, true, api.OK)
		}
	}
}

func TestNormalOfNothingLeft(t *testing.T) {
	for _, name := range []string{"", ".", "./", "./.", "././", ".//", ".//.", "/", "//", "/.", "/./", "//."} {
		holdNormal(t, name, "", false, api.ErrPath)
	}
	holdNormal(t, strings.Repeat("./", 3000), "", false, api.ErrPath)
}

func TestNormalOfNamesThatBeginWithASlash(t *testing.T) {
	for _, name := range []string{"/a", "//a", "/a/b", "/./a", "/a/", "/../a"} {
		holdNormal(t, name, "", false, api.ErrPath)
	}
	holdNormal(t, "./a", "a", false, api.OK)
	holdNormal(t, ".//a", "a", false, api.OK)
}

func TestNormalOfParentParts(t *testing.T) {
	for _, name := range []string{"..", "../", "../a", "a/..", "a/../", "a/../b", "./..", "..//", "a/b/../../c", "../.."} {
		holdNormal(t, name, "", false, api.ErrPath)
	}
}

func TestNormalOfPathsThatMayNotBe(t *testing.T) {
	for _, part := range []string{"a\\", "\\", "a\x00", "\x1f", "\x7f", "\x80", "\xff", "\xe6\xbc", "\xed\xa0\x80", "\xc0\xaf", x(256)} {
		for _, p := range spots(part) {
			holdNormal(t, p, "", false, api.ErrPath)
			holdNormal(t, "./"+p+"/", "", false, api.ErrPath)
		}
	}
}

func TestNormalOfLongNames(t *testing.T) {
	most := x(255) + "/" + x(255) + "/" + x(255) + "/" + x(254) + "/y"
	spread := "./" + strings.ReplaceAll(most, "/", "/.//")
	holdNormal(t, most, most, false, api.OK)
	holdNormal(t, most+"/", most, true, api.OK)
	holdNormal(t, spread, most, false, api.OK)
	holdNormal(t, spread+"//./", most, true, api.OK)
	holdNormal(t, most+"y", "", false, api.ErrPath)
	holdNormal(t, spread+"y", "", false, api.ErrPath)

	deep := strings.Repeat("a/", 31) + "a"
	holdNormal(t, deep, deep, false, api.OK)
	holdNormal(t, strings.ReplaceAll(deep, "/", "///"), deep, false, api.OK)
	holdNormal(t, strings.ReplaceAll(deep, "/", "/././")+"/", deep, true, api.OK)
	holdNormal(t, deep+"/a", "", false, api.ErrPath)
	holdNormal(t, deep+"//./a/", "", false, api.ErrPath)

	holdNormal(t, "a"+strings.Repeat("/", 1<<20)+"b", "a/b", false, api.OK)
	holdNormal(t, strings.Repeat("./", 1<<20)+"a/", "a", true, api.OK)
	holdNormal(t, strings.Repeat("a/", 1<<20), "", false, api.ErrPath)
}

func TestNormalAgainstTheWords(t *testing.T) {
	for _, name := range append(probe.Texts(9, "a", ".", "/"), probe.Texts(6, "b", ".", "/", "é", "\xff", "\\")...) {
		p, dir, e := normalBy(name)
		holdNormal(t, name, p, dir, e)
	}
}

func TestNormalByChance(t *testing.T) {
	c := probe.Chance(1313)
	letters := []string{x(100), x(255), "/", "/", "/./", "//", "/", "a", "é/", ".", "."}
	mays := 0
	for range 20000 {
		name := c.Text(30, letters)
		p, dir, e := normalBy(name)
		holdNormal(t, name, p, dir, e)
		if e == api.OK && len(p) < len(name) {
			mays++
		}
	}
	if mays < 1000 {
		t.Errorf("of %d names paths come that may be: too few to tell", mays)
	}
}
