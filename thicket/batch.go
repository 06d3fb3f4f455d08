package thicket

import (
	"slices"
	"strings"

	"thicket/api"
)

// isBatch says if each of the updates may be.
func isBatch(batch []api.Update) bool {
	for _, u := range batch {
		if len(u.Index) != api.IndexSize || len(u.Value) > api.MaxValue || u.Gone && u.Value != "" {
			return false
		}
	}
	return true
}

// settled is what a batch comes to: the last update of each index, by the indexes.
func settled(batch []api.Update) []api.Update {
	list := slices.Clone(batch)
	slices.SortStableFunc(list, func(a, b api.Update) int { return strings.Compare(a.Index, b.Index) })
	var out []api.Update
	for i, u := range list {
		if i+1 == len(list) || list[i+1].Index != u.Index {
			out = append(out, u)
		}
	}
	return out
}
