// Package proof: digests, and proofs that stand for themselves: see DOC.md.
package proof

import (
	"strings"

	"thicket/api"
	"thicket/digest"
	"thicket/layout"
)

// Digest is the digest of some bytes, so many bytes of it (P3).
func Digest(width int, text string) (string, api.Errno) {
	if !isWidth(width) {
		return "", api.ErrArg
	}
	return digest.Of(width, text), api.OK
}

// Verify looks what a proof proves of an index, under a root (P4).
func Verify(root, index, proof string) (api.Verdict, api.Errno) {
	if !mayAsk(root, index) {
		return api.Verdict{}, api.ErrArg
	}
	w, fault := read(root, index, proof)
	if fault != api.OK {
		return api.Verdict{}, fault
	}
	return w.verdict(), api.OK
}

// Clash tells two texts with one digest, of two proofs that say different things (P5).
func Clash(root, index, one, two string) (string, string, api.Errno) {
	if !mayAsk(root, index) {
		return "", "", api.ErrArg
	}
	first, fault := read(root, index, one)
	if fault != api.OK {
		return "", "", fault
	}
	second, fault := read(root, index, two)
	if fault != api.OK {
		return "", "", fault
	}
	if first.verdict() == second.verdict() {
		return "", "", api.ErrArg
	}
	a, b := apart(first, second, index)
	return a, b, api.OK
}

// apart is the first two texts, from the whole tree on, in which two ways differ
// that come out at one root and prove different things.
func apart(one, two way, index string) (string, string) {
	first, second := one.texts(index), two.texts(index)
	// Where only one of them ends, its text begins otherwise than the other's,
	// which is a node's: so what is behind the shorter one's end is not asked.
	for at := range min(len(first), len(second)) {
		if first[at] != second[at] {
			return first[at], second[at]
		}
	}
	// One leaf, and yet two things proved: only the values are left.
	return digest.ValueText(one.value), digest.ValueText(two.value)
}

// mayAsk says if something may be proved of this index under this root.
func mayAsk(root, index string) bool {
	return isWidth(len(root)) && len(index) == api.IndexSize
}

func isWidth(width int) bool { return 1 <= width && width <= api.MaxWidth }

// verdict gives the value as new memory: the way's is a piece of the proof.
func (w way) verdict() api.Verdict {
	if w.kind == layout.EndsHere {
		return api.Verdict{Kind: api.Present, Value: strings.Clone(w.value)}
	}
	return api.Verdict{Kind: api.Absent}
}
