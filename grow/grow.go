// Package grow is the engine that grows: the tree of a new epoch is made of the
// one ahead by new cells on the ways of what has changed, and shares all else.
// What it is given has been looked at: epochs are kept, indexes have 32 bytes.
package grow

import (
	"slices"

	"thicket/api"
	"thicket/digest"
	"thicket/layout"
)

// Trees are those of the epochs that are kept, the first one at 0.
type Trees struct {
	width int
	room  int    // for how many cells
	empty string // the digest of the empty tree
	tops  []*cell
	size  int // how many entries the last one has
	cells int // how many all of them have
}

// New has one tree, the empty one.
func New(width, room int) *Trees {
	return &Trees{width: width, room: room, empty: digest.Empty(width), tops: []*cell{nil}}
}

// Next makes one more tree, of the last one with changes in it, which are sorted
// by their indexes, none twice: or says ErrLong or ErrFull.
func (t *Trees) Next(changes []api.Update) api.Errno {
	last := t.tops[len(t.tops)-1]
	changes, more := last.effective(changes)
	if t.size+more > api.MaxEntries {
		return api.ErrLong
	}
	next := hold(t.grow(last, 0, changes))
	// If it is refused nothing else leans on what was made for it: this lets it go.
	defer t.letGo(next)
	if t.cells > t.room {
		return api.ErrFull
	}
	t.workOut(next)
	t.tops = append(t.tops, hold(next))
	t.size += more
	return api.OK
}

// effective is the changes after which something else stands than before, and how many
// entries more there are with them. Only these may make cells: where nothing has
// changed both epochs have the cells in common.
func (c *cell) effective(changes []api.Update) ([]api.Update, int) {
	var out []api.Update
	more := 0
	for _, u := range changes {
		leaf := c.find(u.Index)
		switch {
		case leaf == nil && !u.Gone:
			more++
		case leaf != nil && u.Gone:
			more--
		case leaf == nil || leaf.value == u.Value:
			continue
		}
		out = append(out, u)
	}
	return out, more
}

// grow is a tree at that depth with the changes in it.
func (t *Trees) grow(c *cell, depth int, changes []api.Update) *cell {
	if len(changes) == 0 {
		return c
	}
	if u := changes[0]; len(changes) == 1 && (c == nil || c.isLeaf() && c.index == u.Index) {
		if u.Gone {
			return nil
		}
		return t.leaf(u)
	}
	zero, one := c.parted(depth)
	cut := parting(changes, depth)
	return t.join(t.grow(zero, depth+1, changes[:cut]), t.grow(one, depth+1, changes[cut:]))
}

// join is the tree of two trees. If there is but one entry its leaf moves up, and
// stays the cell that it is.
func (t *Trees) join(zero, one *cell) *cell {
	switch {
	case zero == nil && one.ends():
		return one
	case one == nil && zero.ends():
		return zero
	}
	return t.node(zero, one)
}

// parting is how many of the changes have the bit 0 at that depth; ahead of it all
// have the same bits, so that these come first.
func parting(changes []api.Update, depth int) int {
	at := slices.IndexFunc(changes, func(u api.Update) bool { return layout.Bit(u.Index, depth) })
	if at < 0 {
		return len(changes)
	}
	return at
}

// Forget lets the first trees go, so many of them.
func (t *Trees) Forget(count int) {
	for _, top := range t.tops[:count] {
		t.letGo(top)
	}
	t.tops = slices.Delete(t.tops, 0, count)
}

// Cells is how many cells there are.
func (t *Trees) Cells() int { return t.cells }

// Root is the digest of the tree at a place.
func (t *Trees) Root(at int) string { return t.known(t.tops[at]) }

// Entries is all that stands in the tree at a place, by the indexes.
func (t *Trees) Entries(at int) []api.Update { return t.tops[at].entries(nil) }

// Prove is the proof of an index in the tree at a place.
func (t *Trees) Prove(at int, index string) string {
	c := t.tops[at]
	var siblings []string
	for !c.ends() {
		to, beside := c.zero, c.one
		if layout.Bit(index, len(siblings)) {
			to, beside = beside, to
		}
		siblings = append(siblings, t.known(beside))
		c = to
	}
	kind, end := layout.EndsEmpty, ""
	switch {
	case c == nil:
	case c.index == index:
		kind, end = layout.EndsHere, c.value
	default:
		kind, end = layout.EndsOther, c.index+digest.Value(t.width, c.value)
	}
	return layout.Write(kind, siblings, t.empty, end)
}

// known is the digest of a tree that has been worked out.
func (t *Trees) known(c *cell) string {
	if c == nil {
		return t.empty
	}
	return c.digest
}
