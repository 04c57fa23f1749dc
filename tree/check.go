package tree

import (
	"slices"

	"montage/api"
	"montage/fold"
	"montage/route"
)

// May tells whether a node may be.
func May(n api.Node) bool {
	return checkNode(n) == api.OK
}

// checkNode tells whether a node's path, and then whether the node may be.
func checkNode(n api.Node) api.Errno {
	if e := route.Check(n.Path); e != api.OK {
		return e
	}
	if n.Mode < 0 || n.Mode > api.MaxMode || n.Time < 0 || n.Time > api.MaxTime || n.Dir && n.Data != "" {
		return api.ErrArg
	}
	return api.OK
}

// Check tells whether nodes make a tree.
func Check(l []api.Node) api.Errno {
	if len(l) > api.MaxEntries {
		return api.ErrLimit
	}
	ahead := folds{}
	for i, n := range l {
		if e := checkNode(n); e != api.OK {
			return e
		}
		if e := checkPlace(l[:i], n.Path); e != api.OK {
			return e
		}
		if ahead.meet(n.Path) {
			return api.ErrCollide
		}
	}
	if bytesOf(l) > api.MaxBytes {
		return api.ErrLimit
	}
	return api.OK
}

// checkPlace tells whether a path may stand behind these nodes, which are in order.
func checkPlace(ahead []api.Node, p string) api.Errno {
	if len(ahead) > 0 && route.Compare(ahead[len(ahead)-1].Path, p) >= 0 {
		return api.ErrForm
	}
	if dir, ok := route.Parent(p); ok && !hasDir(ahead, dir) {
		return api.ErrNone
	}
	return api.OK
}

// find answers where, among nodes in order, the one with a path stands, or would stand;
// and whether there is one.
func find(l []api.Node, p string) (int, bool) {
	return slices.BinarySearchFunc(l, p, func(n api.Node, p string) int {
		return route.Compare(n.Path, p)
	})
}

// hasDir tells whether among nodes in order there is a directory with a path.
func hasDir(l []api.Node, p string) bool {
	i, there := find(l, p)
	return there && l[i].Dir
}

// bytesOf answers how many bytes all Data together has.
func bytesOf(l []api.Node) int {
	many := 0
	for _, n := range l {
		many += len(n.Data)
	}
	return many
}

// folds are paths, folded, and how many were folded to each.
type folds map[string]int

// meet adds a path, and tells whether one that is there already collides with it. No path
// comes twice, so that those that are alike aren't the same.
func (ahead folds) meet(p string) bool {
	folded := fold.Fold(p)
	ahead[folded]++
	return ahead[folded] > 1
}
