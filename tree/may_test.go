package tree_test

import (
	"math"
	"strings"
	"testing"

	"montage/api"
	"montage/tree"
)

// holdMay asks May of a node, and of the same one again.
func holdMay(t *testing.T, n api.Node, want bool) {
	t.Helper()
	for range 2 {
		if got := tree.May(n); got != want {
			t.Errorf("May of %.60q (directory %v, %d bytes, mode %d, time %d): %v", n.Path, n.Dir, len(n.Data), n.Mode, n.Time, got)
		}
	}
}

func TestMayOfOrdinaryNodes(t *testing.T) {
	holdMay(t, file("a", "x"), true)
	holdMay(t, file("a/b/c", ""), true)
	holdMay(t, file("é/漢", "\x00\xff"), true)
	holdMay(t, dir("a"), true)
	holdMay(t, untold("a/b"), true)
	holdMay(t, api.Node{Path: "a"}, true)
	holdMay(t, api.Node{Path: "a", Dir: true}, true)
	holdMay(t, api.Node{}, false)
}

func TestMayOfEachMode(t *testing.T) {
	for mode := -20; mode < 1100; mode++ {
		holdMay(t, api.Node{Path: "a", Mode: mode}, mode >= 0 && mode <= 511)
		holdMay(t, api.Node{Path: "a", Dir: true, Mode: mode}, mode >= 0 && mode <= 511)
	}
	for _, mode := range []int{1 << 16, 1<<16 + 1, 1 << 32, 1<<32 + 420, -1 << 32, math.MaxInt, math.MinInt, math.MinInt + 420, 0o100644, 0o40755} {
		holdMay(t, api.Node{Path: "a", Mode: mode}, false)
		holdMay(t, api.Node{Path: "a", Dir: true, Mode: mode}, false)
	}
}

func TestMayOfEdgesOfTime(t *testing.T) {
	for time, may := range map[int]bool{
		math.MinInt: false, math.MinInt32: false, -2: false, -1: false, 0: true, 1: true, 1 << 31: true, 1<<31 - 1: true,
		1<<32 - 2: true, 1<<32 - 1: true, 1 << 32: false, 1<<32 + 1: false, 1 << 33: false, math.MaxInt: false,
	} {
		holdMay(t, api.Node{Path: "a", Time: time}, may)
		holdMay(t, api.Node{Path: "a", Dir: true, Time: time}, may)
		holdMay(t, api.Node{Path: "a", Mode: 511, Time: time, Data: "x"}, may)
	}
}

func TestMayOfData(t *testing.T) {
	holdMay(t, api.Node{Path: "a", Dir: true, Data: "x"}, false)
	holdMay(t, api.Node{Path: "a", Dir: true, Data: "\x00"}, false)
	holdMay(t, api.Node{Path: "a", Data: "\x00"}, true)
	// Of a single node's bytes nothing is said.
	holdMay(t, api.Node{Path: "a", Data: strings.Repeat("x", 1<<22+1)}, true)
}

func TestMayOfPaths(t *testing.T) {
	for p, may := range map[string]bool{
		"": false, "a": true, "a/b": true, "/": false, "/a": false, "a/": false, "a//b": false, ".": false, "..": false, "a/..": false,
		"...": true, "a\\b": false, "a\x1f": false, "a\x7f": false, "\xff": false, "é": true, ".wh.a": true,
		strings.Repeat("x", 255): true, strings.Repeat("x", 256): false,
		strings.Repeat("a/", 31) + "a": true, strings.Repeat("a/", 32) + "a": false,
		strings.Repeat(strings.Repeat("x", 204)+"/", 5)[:1024]: true, strings.Repeat(strings.Repeat("x", 204)+"/", 5) + "a": false,
	} {
		holdMay(t, file(p, "x"), may)
		holdMay(t, dir(p), may)
		holdMay(t, untold(p), may)
	}
}

func TestMayOfSeveralFaults(t *testing.T) {
	for _, p := range []string{"a", ""} {
		for _, mode := range []int{-1, 0, 511, 512} {
			for _, time := range []int{-1, 0, 1<<32 - 1, 1 << 32} {
				for _, data := range []string{"", "x"} {
					n := api.Node{Path: p, Data: data, Mode: mode, Time: time}
					holdMay(t, n, mayBy(n))
					n.Dir = true
					holdMay(t, n, mayBy(n))
				}
			}
		}
	}
}
