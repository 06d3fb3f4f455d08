package grow

import (
	"strings"

	"thicket/api"
	"thicket/layout"
)

// cell is a leaf or a node of one tree or of several. An empty tree has none:
// it is nil. What a cell stands for never changes, for older epochs have it too.
type cell struct {
	zero, one    *cell  // of a node: the trees of the bits 0 and 1
	index, value string // of a leaf
	digest       string // not there till it is worked out
	holds        int    // how many nodes, epochs and calls lean on it
}

// isLeaf: a node has two entries or more, so one of its trees is not empty.
func (c *cell) isLeaf() bool { return c.zero == nil && c.one == nil }

// ends says if a way comes no further than here.
func (c *cell) ends() bool { return c == nil || c.isLeaf() }

// parted is the two trees of a tree at that depth, also where a leaf has been
// alone till now and goes down to make room beside it.
func (c *cell) parted(depth int) (*cell, *cell) {
	switch {
	case !c.ends():
		return c.zero, c.one
	case c != nil && layout.Bit(c.index, depth):
		return nil, c
	}
	return c, nil
}

// find is the leaf of an index, or nil.
func (c *cell) find(index string) *cell {
	for depth := 0; !c.ends(); depth++ {
		if layout.Bit(index, depth) {
			c = c.one
		} else {
			c = c.zero
		}
	}
	if c == nil || c.index != index {
		return nil
	}
	return c
}

// entries lays those of a tree behind a list, by their indexes.
func (c *cell) entries(list []api.Update) []api.Update {
	if c == nil {
		return list
	}
	if c.isLeaf() {
		return append(list, api.Update{Index: c.index, Value: c.value})
	}
	return c.one.entries(c.zero.entries(list))
}

// leaf makes one. It copies the texts: they are the caller's.
func (t *Trees) leaf(u api.Update) *cell {
	t.cells++
	return &cell{index: strings.Clone(u.Index), value: strings.Clone(u.Value)}
}

func (t *Trees) node(zero, one *cell) *cell {
	t.cells++
	return &cell{zero: hold(zero), one: hold(one)}
}

// hold leans on a tree till letGo.
func hold(c *cell) *cell {
	if c != nil {
		c.holds++
	}
	return c
}

// letGo ends a hold. A cell on which nothing leans any more is none, and lets go
// what it leans on.
func (t *Trees) letGo(c *cell) {
	if c == nil {
		return
	}
	if c.holds--; c.holds > 0 {
		return
	}
	t.cells--
	t.letGo(c.zero)
	t.letGo(c.one)
}
