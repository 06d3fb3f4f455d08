package again

import (
	"sort"

	"thicket/api"
	"thicket/layout"
)

// tree is that of some entries, by their indexes: all that have the same bits ahead
// of its depth.
type tree struct {
	depth   int
	entries []api.Update
}

func whole(state []api.Update) tree { return tree{0, state} }

// ends says if a way comes no further than here: the tree is empty, or a leaf.
func (t tree) ends() bool { return len(t.entries) < 2 }

// halves is the trees of the bits 0 and 1 at the depth of a tree. All bits ahead are
// the same, so that those of the bit 0 come first.
func (t tree) halves() (tree, tree) {
	cut := sort.Search(len(t.entries), func(at int) bool { return layout.Bit(t.entries[at].Index, t.depth) })
	return tree{t.depth + 1, t.entries[:cut]}, tree{t.depth + 1, t.entries[cut:]}
}

// way is where the way of an index ends, and the trees beside it, from the whole one on.
func (t tree) way(index string) (tree, []tree) {
	var beside []tree
	for !t.ends() {
		to, other := t.halves()
		if layout.Bit(index, t.depth) {
			to, other = other, to
		}
		beside = append(beside, other)
		t = to
	}
	return t, beside
}
