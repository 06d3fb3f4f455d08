package again

import "thicket/api"

// newCells is how many cells an epoch has that the one ahead has not.
func newCells(ahead, next []api.Update) int {
	return fresh(whole(next), whole(difference(ahead, next)))
}

// fresh is how many cells of a tree are new, if the changes under its beginning of
// indexes are these. A node is if anything has changed under it; a leaf only if it
// has itself, for it may have stood at another depth.
func fresh(next, changes tree) int {
	if len(next.entries) == 0 || len(changes.entries) == 0 {
		return 0
	}
	if next.ends() {
		if _, found := find(changes.entries, next.entries[0].Index); found {
			return 1
		}
		return 0
	}
	zero, one := next.halves()
	changesZero, changesOne := changes.halves()
	return 1 + fresh(zero, changesZero) + fresh(one, changesOne)
}

// difference is the changes that make the one state of the other, by their indexes.
func difference(ahead, next []api.Update) []api.Update {
	var out []api.Update
	for len(ahead) > 0 && len(next) > 0 {
		switch old, u := ahead[0], next[0]; {
		case old.Index < u.Index:
			out = append(out, gone(old))
			ahead = ahead[1:]
		case old.Index > u.Index:
			out = append(out, u)
			next = next[1:]
		default:
			if old.Value != u.Value {
				out = append(out, u)
			}
			ahead, next = ahead[1:], next[1:]
		}
	}
	for _, old := range ahead {
		out = append(out, gone(old))
	}
	return append(out, next...)
}

func gone(u api.Update) api.Update { return api.Update{Index: u.Index, Gone: true} }
