package tree_test

import (
	"fmt"
	"slices"
	"testing"

	"montage/api"
	"montage/fold"
	"montage/route"
	"montage/tree"
)

// file answers a file, with a mode and a time of its own.
func file(p, data string) api.Node {
	return api.Node{Path: p, Data: data, Mode: 420, Time: 1700000000}
}

// dir answers a directory, with a mode and a time of its own.
func dir(p string) api.Node {
	return api.Node{Path: p, Dir: true, Mode: 448, Time: 99}
}

// untold answers a directory that nobody told of.
func untold(p string) api.Node {
	return api.Node{Path: p, Dir: true, Mode: 493, Time: 0}
}

// mayBy tells whether a node may be, as the chapter says it.
func mayBy(n api.Node) bool {
	return route.Check(n.Path) == api.OK && n.Mode >= 0 && n.Mode <= 511 && n.Time >= 0 && n.Time <= 4294967295 && (!n.Dir || n.Data == "")
}

// isAhead tells whether one path is ahead of another one, part by part.
func isAhead(p, q string) bool {
	return slices.Compare(route.Parts(p), route.Parts(q)) < 0
}

// isUnder tells whether p begins with all of q's parts, and has more.
func isUnder(p, q string) bool {
	l, m := route.Parts(p), route.Parts(q)
	return len(l) > len(m) && slices.Equal(l[:len(m)], m)
}

// aheadOfLast answers what is ahead of a path's last / .
func aheadOfLast(p string) (string, bool) {
	for i := len(p) - 1; i >= 0; i-- {
		if p[i] == '/' {
			return p[:i], true
		}
	}
	return "", false
}

// collide tells whether two paths aren't the same, but alike.
func collide(p, q string) bool {
	return p != q && fold.Alike(p, q)
}

// checkBy answers Check's error, as the chapter says it.
func checkBy(l []api.Node) api.Errno {
	if len(l) > 4096 {
		return api.ErrLimit
	}
	for i, n := range l {
		if e := checkNodeBy(l[:i], n); e != api.OK {
			return e
		}
	}
	if bytesBy(l) > 1<<22 {
		return api.ErrLimit
	}
	return api.OK
}

// checkNodeBy answers what is wrong with a node behind others.
func checkNodeBy(ahead []api.Node, n api.Node) api.Errno {
	up, within := aheadOfLast(n.Path)
	switch {
	case route.Check(n.Path) != api.OK:
		return api.ErrPath
	case !mayBy(n):
		return api.ErrArg
	case len(ahead) > 0 && !isAhead(ahead[len(ahead)-1].Path, n.Path):
		return api.ErrForm
	case within && !slices.ContainsFunc(ahead, func(m api.Node) bool { return m.Dir && m.Path == up }):
		return api.ErrNone
	case slices.ContainsFunc(ahead, func(m api.Node) bool { return collide(m.Path, n.Path) }):
		return api.ErrCollide
	}
	return api.OK
}

func bytesBy(l []api.Node) int {
	many := 0
	for _, n := range l {
		many += len(n.Data)
	}
	return many
}

// words is a tree by the chapter's words: nodes in any order, all of which are asked each
// time.
type words struct {
	nodes []api.Node
}

// takeAway takes away the nodes that are asked for, and answers how many.
func (w *words) takeAway(gone func(api.Node) bool) int {
	many := len(w.nodes)
	w.nodes = slices.DeleteFunc(slices.Clone(w.nodes), gone)
	return many - len(w.nodes)
}

func (w *words) takeAt(p string) int {
	return w.takeAway(func(n api.Node) bool { return n.Path == p })
}

func (w *words) takeUnder(p string) int {
	return w.takeAway(func(n api.Node) bool { return isUnder(n.Path, p) })
}

func (w *words) add(n api.Node) {
	w.nodes = append(slices.Clone(w.nodes), n)
}

func (w *words) makeDirs(p string) {
	parts := route.Parts(p)
	for i := range parts {
		q := ""
		for k, part := range parts[:i+1] {
			if k > 0 {
				q += "/"
			}
			q += part
		}
		if n, ok := w.get(q); !ok || !n.Dir {
			w.takeAt(q)
			w.add(untold(q))
		}
	}
}

// unlessTooMany does nothing, if there would be too many nodes.
func (w *words) unlessTooMany(do func()) api.Errno {
	before := w.nodes
	do()
	if len(w.nodes) > 4096 {
		w.nodes = before
		return api.ErrLimit
	}
	return api.OK
}

func (w *words) put(n api.Node) api.Errno {
	if route.Check(n.Path) != api.OK {
		return api.ErrPath
	}
	if !mayBy(n) {
		return api.ErrArg
	}
	return w.unlessTooMany(func() {
		if up, ok := aheadOfLast(n.Path); ok {
			w.makeDirs(up)
		}
		w.takeAt(n.Path)
		if !n.Dir {
			w.takeUnder(n.Path)
		}
		w.add(n)
	})
}

func (w *words) ensure(p string) api.Errno {
	if route.Check(p) != api.OK {
		return api.ErrPath
	}
	return w.unlessTooMany(func() { w.makeDirs(p) })
}

func (w *words) remove(p string) int {
	if route.Check(p) != api.OK {
		return 0
	}
	return w.takeUnder(p) + w.takeAt(p)
}

func (w *words) get(p string) (api.Node, bool) {
	for _, n := range w.nodes {
		if n.Path == p {
			return n, true
		}
	}
	return api.Node{}, false
}

// all answers the nodes in order.
func (w *words) all() []api.Node {
	l := slices.Clone(w.nodes)
	slices.SortFunc(l, func(n, m api.Node) int { return slices.Compare(route.Parts(n.Path), route.Parts(m.Path)) })
	return l
}

func (w *words) list(p string) []api.Node {
	return slices.DeleteFunc(w.all(), func(n api.Node) bool {
		up, within := aheadOfLast(n.Path)
		return up != p || within != (p != "")
	})
}

func (w *words) collision() (string, bool) {
	l := w.all()
	folded := make([]string, len(l))
	for i, n := range l {
		folded[i] = fold.Fold(n.Path)
		if k := slices.Index(folded[:i], folded[i]); k >= 0 && l[k].Path != n.Path {
			return n.Path, true
		}
	}
	return "", false
}

// holdTree asks a tree all that it answers, and twice, against one by the words.
func holdTree(t *testing.T, x *tree.Tree, w *words) {
	t.Helper()
	for range 2 {
		holdNodes(t, "All", x.All(), w.all())
		if x.Len() != len(w.nodes) || x.Bytes() != bytesBy(w.nodes) {
			t.Errorf("Len %d, Bytes %d, not %d, %d", x.Len(), x.Bytes(), len(w.nodes), bytesBy(w.nodes))
		}
		holdCollision(t, x, w)
	}
	holdTreeAgain(t, x)
}

// holdTreeAgain asks whether a tree's nodes make a tree, but for collisions and bytes, and
// that tree again.
func holdTreeAgain(t *testing.T, x *tree.Tree) {
	t.Helper()
	_, collides := x.Collision()
	want := api.OK
	if collides {
		want = api.ErrCollide
	} else if x.Bytes() > 1<<22 {
		want = api.ErrLimit
	}
	if e := tree.Check(x.All()); e != want {
		t.Errorf("Check of All: %d, not %d", e, want)
	}
	again, e := tree.Of(x.All())
	if e != want || (again == nil) != (want != api.OK) {
		t.Fatalf("Of of All: %d, not %d", e, want)
	}
	if want == api.OK {
		holdNodes(t, "All of Of of All", again.All(), x.All())
	}
}

func holdCollision(t *testing.T, x *tree.Tree, w *words) {
	t.Helper()
	want, there := w.collision()
	if p, ok := x.Collision(); p != want || ok != there {
		t.Errorf("Collision: %q, %v, not %q, %v", p, ok, want, there)
	}
}

func holdNodes(t *testing.T, what string, got, want []api.Node) {
	t.Helper()
	if !slices.Equal(got, want) {
		t.Errorf("%s: %s, not %s", what, told(got), told(want))
	}
}

// told writes nodes short: their paths, with a / behind those of directories.
func told(l []api.Node) string {
	s := ""
	for _, n := range l[:min(len(l), 40)] {
		s += n.Path
		if n.Dir {
			s += "/"
		}
		s += " "
	}
	return s
}

// holdPlace asks Get and List of a path, and twice.
func holdPlace(t *testing.T, x *tree.Tree, w *words, p string) {
	t.Helper()
	for range 2 {
		want, there := w.get(p)
		if n, ok := x.Get(p); n != want || ok != there {
			t.Errorf("Get(%.60q): %.200v, %v, not %.200v, %v", p, n, ok, want, there)
		}
		holdNodes(t, fmt.Sprintf("List(%.60q)", p), x.List(p), w.list(p))
	}
}

// both is a tree, and one by the words, with which the same is done.
type both struct {
	t *testing.T
	x *tree.Tree
	w *words
}

// grown answers a tree of these nodes, put one by one.
func grown(t *testing.T, l ...api.Node) both {
	t.Helper()
	b := both{t, tree.New(), &words{}}
	for _, n := range l {
		b.put(n, api.OK)
	}
	return b
}

func (b both) put(n api.Node, want api.Errno) {
	b.t.Helper()
	if e := b.w.put(n); e != want {
		b.t.Fatalf("Put(%.60q) is %d by the words, not %d", n.Path, e, want)
	}
	if e := b.x.Put(n); e != want {
		b.t.Errorf("Put(%.60q): %d, not %d", n.Path, e, want)
	}
	holdTree(b.t, b.x, b.w)
}

func (b both) ensure(p string, want api.Errno) {
	b.t.Helper()
	if e := b.w.ensure(p); e != want {
		b.t.Fatalf("Ensure(%.60q) is %d by the words, not %d", p, e, want)
	}
	if e := b.x.Ensure(p); e != want {
		b.t.Errorf("Ensure(%.60q): %d, not %d", p, e, want)
	}
	holdTree(b.t, b.x, b.w)
}

func (b both) remove(p string, want int) {
	b.t.Helper()
	if many := b.w.remove(p); many != want {
		b.t.Fatalf("Remove(%.60q) is %d by the words, not %d", p, many, want)
	}
	if many := b.x.Remove(p); many != want {
		b.t.Errorf("Remove(%.60q): %d, not %d", p, many, want)
	}
	holdTree(b.t, b.x, b.w)
}

func (b both) clear(p string, want int) {
	b.t.Helper()
	if many := b.w.takeUnder(p); many != want {
		b.t.Fatalf("Clear(%.60q) is %d by the words, not %d", p, many, want)
	}
	if many := b.x.Clear(p); many != want {
		b.t.Errorf("Clear(%.60q): %d, not %d", p, many, want)
	}
	holdTree(b.t, b.x, b.w)
}

// has asks whether the tree has these nodes, and no others, as they are told.
func (b both) has(want string) {
	b.t.Helper()
	if got := told(b.x.All()); got != want {
		b.t.Errorf("there is %s, not %s", got, want)
	}
}
