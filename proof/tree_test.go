package proof

import (
	"crypto/sha256"
	"maps"
	"math/rand"
	"slices"
	"strings"
)

// h is the digest of some texts, one behind the other, by the library.
func h(width int, parts ...string) string {
	sum := sha256.Sum256([]byte(strings.Join(parts, "")))
	return string(sum[:width])
}

// from is the index that begins with some bytes and goes on with zeros.
func from(start string) string { return start + strings.Repeat("\x00", 32-len(start)) }

// bitOf is the bit of an index, counted in another way than the program's.
func bitOf(index string, at int) int { return int(index[at/8]) >> (7 - at%8) & 1 }

// flip is the index with one bit turned over.
func flip(index string, at int) string {
	b := []byte(index)
	b[at/8] ^= 0x80 >> (at % 8)
	return string(b)
}

// state is the entries of a tree.
type state map[string]string

// half is the entries whose index has that bit there.
func (s state) half(at, want int) state {
	out := maps.Clone(s)
	maps.DeleteFunc(out, func(index, _ string) bool { return bitOf(index, at) != want })
	return out
}

func (s state) indexes() []string { return slices.Sorted(maps.Keys(s)) }

// rootAt is the digest of the tree of the entries, at a depth, as the document tells it.
func (s state) rootAt(width, depth int) string {
	switch len(s) {
	case 0:
		return h(width, "\x00")
	case 1:
		index := s.indexes()[0]
		return h(width, "\x01", index, h(width, "\x04", s[index]))
	}
	return h(width, "\x02", s.half(depth, 0).rootAt(width, depth+1), s.half(depth, 1).rootAt(width, depth+1))
}

// proofOf is the proof of an index, as the document tells it.
func (s state) proofOf(width int, index string) string {
	var siblings []string
	for len(s) > 1 {
		depth := len(siblings)
		siblings = append(siblings, s.half(depth, 1-bitOf(index, depth)).rootAt(width, depth+1))
		s = s.half(depth, bitOf(index, depth))
	}
	if len(s) == 0 {
		return written(width, 0, siblings, "")
	}
	if value, ok := s[index]; ok {
		return written(width, 1, siblings, value)
	}
	other := s.indexes()[0]
	return written(width, 2, siblings, other+h(width, "\x04", s[other]))
}

// written is a proof's bytes.
func written(width int, kind byte, siblings []string, end string) string {
	d := len(siblings)
	marks := make([]byte, (d+7)/8)
	told := ""
	for at, sibling := range siblings {
		if sibling != h(width, "\x00") {
			marks[at/8] += 1 << (7 - at%8)
			told += sibling
		}
	}
	return string([]byte{kind, byte(d / 256), byte(d % 256)}) + string(marks) + told + end
}

// climbed is the root at which an end comes out under siblings.
func climbed(width int, index, end string, siblings []string) string {
	for at := len(siblings) - 1; at >= 0; at-- {
		pair := []string{end, siblings[at]}
		if bitOf(index, at) == 1 {
			slices.Reverse(pair)
		}
		end = h(width, "\x02", pair[0], pair[1])
	}
	return end
}

// some is siblings of that many depths; each third one is an empty tree.
func some(width, depth int) []string {
	out := make([]string, depth)
	for at := range out {
		// The low bit keeps it apart from the empty tree's, at every width.
		sibling := []byte(strings.Repeat("\x00", width))
		sibling[0] = h(1, "\x00")[0] ^ 1 ^ byte(at)<<1
		if out[at] = string(sibling); at%3 == 2 {
			out[at] = h(width, "\x00")
		}
	}
	return out
}

// randomState has indexes that share beginnings of many lengths.
func randomState(r *rand.Rand, size int) state {
	s := state{}
	for len(s) < size {
		index := randomIndex(r)
		if len(s) > 0 && r.Intn(2) == 0 {
			near := s.indexes()[r.Intn(len(s))]
			index = flip(near, r.Intn(256))
		}
		s[index] = strings.Repeat("v", r.Intn(101))
	}
	return s
}

func randomIndex(r *rand.Rand) string {
	b := make([]byte, 32)
	r.Read(b)
	return string(b)
}
