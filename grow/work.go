package grow

import (
	"thicket/digest"
	"thicket/gather"
)

// worked is a cell and the digest that was worked out for it.
type worked struct {
	cell   *cell
	digest string
}

// workOut works out the digests that are not there yet in a tree: part by part, and
// then what is above the parts.
func (t *Trees) workOut(top *cell) {
	t.workParts(parts(top))
	write(t.work(top))
}

// workParts works out the digests of trees, each by a goroutine of its own. These
// tell what they have worked out; the cells are written into here alone.
func (t *Trees) workParts(trees []*cell) {
	for _, list := range gather.All(trees, t.work) {
		write(list)
	}
}

func write(list []worked) {
	for _, w := range list {
		w.cell.digest = w.digest
	}
}

// work works out what digests are not there yet in a tree, and writes nothing.
func (t *Trees) work(top *cell) []worked {
	_, list := t.workUnder(top, nil)
	return list
}

// workUnder is the digest of a tree; what was worked out for it is laid behind
// the list.
func (t *Trees) workUnder(c *cell, list []worked) (string, []worked) {
	if !isFresh(c) {
		return t.known(c), list
	}
	var text string
	if c.isLeaf() {
		text = digest.LeafText(c.index, digest.Value(t.width, c.value))
	} else {
		var zero, one string
		zero, list = t.workUnder(c.zero, list)
		one, list = t.workUnder(c.one, list)
		text = digest.NodeText(zero, one)
	}
	out := digest.Of(t.width, text)
	return out, append(list, worked{c, out})
}

// parts are trees of one depth that have no digest yet: of the first depth at
// which there are enough of them, or else as many as there are at any.
func parts(top *cell) []*cell {
	level := fresh(nil, top)
	most := level
	for len(level) > 0 && len(most) < gather.Enough {
		if level = under(level); len(level) > len(most) {
			most = level
		}
	}
	return most
}

// under is the fresh trees in nodes.
func under(level []*cell) []*cell {
	var out []*cell
	for _, c := range level {
		out = fresh(out, c.zero, c.one)
	}
	return out
}

// fresh lays behind a list those of the trees that are fresh.
func fresh(list []*cell, trees ...*cell) []*cell {
	for _, c := range trees {
		if isFresh(c) {
			list = append(list, c)
		}
	}
	return list
}

// isFresh says if the digest of a tree is not there yet.
func isFresh(c *cell) bool { return c != nil && c.digest == "" }
