package proof

import (
	"thicket/api"
	"thicket/digest"
	"thicket/layout"
)

// way is what a proof tells, read. Its texts are pieces of the proof.
type way struct {
	width, kind int
	siblings    []string // one for each depth, also those that are empty trees
	value       string   // if it ends here
	other       string   // if it ends at another index: that one,
	otherValue  string   // and the digest of its value
}

// read reads a proof and holds it against the root. All that may be wrong with
// it goes to one place.
func read(root, index, text string) (way, api.Errno) {
	w := way{width: len(root)}
	empty := digest.Empty(w.width)
	fault := api.ErrForm
	depth, marks := 0, ""

	if len(text) < layout.HeadSize {
		goto wrong
	}
	w.kind, depth, text = int(text[0]), int(text[1])<<8|int(text[2]), text[layout.HeadSize:]
	if w.kind > layout.EndsOther || depth > layout.MaxDepth || len(text) < layout.BytesOf(depth) {
		goto wrong
	}
	marks, text = text[:layout.BytesOf(depth)], text[layout.BytesOf(depth):]
	if marked(marks, depth) {
		goto wrong
	}
	for at := range depth {
		sibling := empty
		if layout.Bit(marks, at) {
			if len(text) < w.width || text[:w.width] == empty {
				goto wrong
			}
			sibling, text = text[:w.width], text[w.width:]
		}
		w.siblings = append(w.siblings, sibling)
	}
	switch w.kind {
	case layout.EndsEmpty:
		if text != "" {
			goto wrong
		}
	case layout.EndsHere:
		if len(text) > api.MaxValue {
			goto wrong
		}
		w.value = text
	case layout.EndsOther:
		if len(text) != api.IndexSize+w.width {
			goto wrong
		}
		w.other, w.otherValue = text[:api.IndexSize], text[api.IndexSize:]
		if w.other == index || !sameStart(w.other, index, depth) {
			goto wrong
		}
	}
	if fault = api.ErrRoot; w.root(index) != root {
		goto wrong
	}
	return w, api.OK

wrong:
	return way{}, fault
}

// root is the digest at which the way comes out.
func (w way) root(index string) string { return digest.Of(w.width, w.texts(index)[0]) }

// texts are those of which the digests on the way are made, one for each depth,
// from the whole tree on: the nodes', and in the end that of where it ends.
func (w way) texts(index string) []string {
	depth := len(w.siblings)
	texts := make([]string, depth+1)
	texts[depth] = w.end(index)
	for at := depth - 1; at >= 0; at-- {
		under := digest.Of(w.width, texts[at+1])
		if layout.Bit(index, at) {
			texts[at] = digest.NodeText(w.siblings[at], under)
		} else {
			texts[at] = digest.NodeText(under, w.siblings[at])
		}
	}
	return texts
}

// end is the text of which the digest is made of that at which the way ends.
func (w way) end(index string) string {
	switch w.kind {
	case layout.EndsHere:
		return digest.LeafText(index, digest.Value(w.width, w.value))
	case layout.EndsOther:
		return digest.LeafText(w.other, w.otherValue)
	}
	return digest.EmptyText()
}

// marked says if a bit from that place on is 1.
func marked(marks string, from int) bool {
	for at := from; at < 8*len(marks); at++ {
		if layout.Bit(marks, at) {
			return true
		}
	}
	return false
}

// sameStart says if the first bits of two indexes are the same, so many of them.
func sameStart(one, two string, count int) bool {
	for at := range count {
		if layout.Bit(one, at) != layout.Bit(two, at) {
			return false
		}
	}
	return true
}
