// Package again is the engine that works each tree out anew: of an epoch it keeps
// but the entries, by their indexes, and makes all that is asked out of these. What
// it is given has been looked at: epochs are kept, indexes have 32 bytes.
package again

import (
	"slices"
	"strings"

	"thicket/api"
	"thicket/digest"
	"thicket/layout"
)

// Trees are those of the epochs that are kept, the first one at 0.
type Trees struct {
	width  int
	room   int            // for how many cells
	empty  string         // the digest of the empty tree
	states [][]api.Update // the entries of each, none of them Gone
}

// New has one tree, the empty one.
func New(width, room int) *Trees {
	return &Trees{width: width, room: room, empty: digest.Empty(width), states: [][]api.Update{nil}}
}

// Next makes one more tree, of the last one with changes in it: or says ErrLong or
// ErrFull.
func (t *Trees) Next(changes []api.Update) api.Errno {
	last := t.states[len(t.states)-1]
	next := changed(last, changes)
	if len(next) > api.MaxEntries {
		return api.ErrLong
	}
	if t.Cells()+newCells(last, next) > t.room {
		return api.ErrFull
	}
	t.states = append(t.states, next)
	return api.OK
}

// Forget forgets the first trees, so many of them.
func (t *Trees) Forget(count int) { t.states = slices.Delete(t.states, 0, count) }

// Cells is how many cells there are. Those that are forgotten have none, so the first
// state has all its cells for itself.
func (t *Trees) Cells() int {
	count := 0
	var ahead []api.Update
	for _, next := range t.states {
		count += newCells(ahead, next)
		ahead = next
	}
	return count
}

// Root is the digest of the tree at a place.
func (t *Trees) Root(at int) string {
	return t.workOut([]tree{whole(t.states[at])})[0]
}

// Entries is all that stands in the tree at a place, by the indexes.
func (t *Trees) Entries(at int) []api.Update {
	return append([]api.Update(nil), t.states[at]...)
}

// Prove is the proof of an index in the tree at a place.
func (t *Trees) Prove(at int, index string) string {
	end, beside := whole(t.states[at]).way(index)
	siblings := t.workOut(beside)
	if len(end.entries) == 0 {
		return layout.Write(layout.EndsEmpty, siblings, t.empty, "")
	}
	u := end.entries[0]
	if u.Index == index {
		return layout.Write(layout.EndsHere, siblings, t.empty, u.Value)
	}
	return layout.Write(layout.EndsOther, siblings, t.empty, u.Index+digest.Value(t.width, u.Value))
}

// changed is a state with changes in it. It copies the texts: they are the caller's.
func changed(state, changes []api.Update) []api.Update {
	next := slices.Clone(state)
	for _, u := range changes {
		at, found := find(next, u.Index)
		if found {
			next = slices.Delete(next, at, at+1)
		}
		if !u.Gone {
			next = slices.Insert(next, at, api.Update{Index: strings.Clone(u.Index), Value: strings.Clone(u.Value)})
		}
	}
	return next
}

// find is where an index stands among updates that are sorted, or would stand.
func find(list []api.Update, index string) (int, bool) {
	return slices.BinarySearchFunc(list, index, func(u api.Update, index string) int {
		return strings.Compare(u.Index, index)
	})
}
