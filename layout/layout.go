// Package layout is how a proof lies in bytes, for those who write one and those
// who read one.
package layout

import "thicket/api"

// The kinds of proofs: at what the way of the index ends.
const (
	EndsEmpty = 0
	EndsHere  = 1 // at a leaf of this index
	EndsOther = 2 // at a leaf of another index
)

const (
	HeadSize = 3 // bytes: the kind, and the depth in two
	MaxDepth = 8 * api.IndexSize
)

// BytesOf is in how many bytes so many bits stand.
func BytesOf(count int) int { return (count + 7) / 8 }

// Bit says if the bit at a place is 1; the highest of the first byte is at 0.
func Bit(text string, at int) bool { return text[at/8]<<(at%8)&0x80 != 0 }

// Write is the proof with these siblings, one for each depth. Which of them are
// told is asked of their digests: that of a tree that is not empty may by chance
// be the one of the empty tree.
func Write(kind int, siblings []string, empty, end string) string {
	depth := len(siblings)
	out := make([]byte, HeadSize+BytesOf(depth))
	out[0], out[1], out[2] = byte(kind), byte(depth>>8), byte(depth)
	for at, sibling := range siblings {
		if sibling != empty {
			out[HeadSize+at/8] |= 0x80 >> (at % 8)
			out = append(out, sibling...)
		}
	}
	return string(append(out, end...))
}
