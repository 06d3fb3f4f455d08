// Package proof: digests, and proofs that stand for themselves: see DOC.md.
package proof

import (
	"strings"

	"thicket/api"
	"thicket/digest"
)

// Digest is the digest of some bytes, so many bytes of it (P3).
func Digest(width int, text string) (string, api.Errno) {
	if !isWidth(width) {
		return "", api.ErrArg
	}
	return digest.Of(width, text), api.OK
}

// Verify looks what a proof proves of an index, under a root (P4).
func Verify(root, index, proof string) (api.Verdict, api.Errno) {
	if !isWidth(len(root)) || len(index) != api.IndexSize {
		return api.Verdict{}, api.ErrArg
	}
	w, fault := read(root, index, proof)
	if fault != api.OK {
		return api.Verdict{}, fault
	}
	return w.verdict(), api.OK
}

// Clash tells two texts with one digest, of two proofs that say different things (P5).
func Clash(root, index, one, two string) (string, string, api.Errno) { return "", "", 0 }

func isWidth(width int) bool { return 1 <= width && width <= api.MaxWidth }

// verdict gives the value as new memory: the way's is a piece of the proof.
func (w way) verdict() api.Verdict {
	if w.kind == endsHere {
		return api.Verdict{Kind: api.Present, Value: strings.Clone(w.value)}
	}
	return api.Verdict{Kind: api.Absent}
}
