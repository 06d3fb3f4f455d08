// Package digest makes the digests of DOC.md from scratch: those of bytes, and
// those of the trees, which the proofs and the directory share. Widths are 1 to
// 32 here: the calls that the document lists have looked ahead.
package digest

import (
	"math/bits"
	"strings"
)

const (
	stateSize  = 8  // words
	blockSize  = 64 // bytes
	lengthSize = 8  // bytes
	rounds     = 64
)

// squareRoots: the first 32 bits of the fractional parts of the square roots of
// the first eight primes.
var squareRoots = [stateSize]uint32{
	0x6a09e667, 0xbb67ae85, 0x3c6ef372, 0xa54ff53a, 0x510e527f, 0x9b05688c, 0x1f83d9ab, 0x5be0cd19,
}

// cubeRoots: the same of the cube roots of the first 64 primes.
var cubeRoots = [rounds]uint32{
	0x428a2f98, 0x71374491, 0xb5c0fbcf, 0xe9b5dba5, 0x3956c25b, 0x59f111f1, 0x923f82a4, 0xab1c5ed5,
	0xd807aa98, 0x12835b01, 0x243185be, 0x550c7dc3, 0x72be5d74, 0x80deb1fe, 0x9bdc06a7, 0xc19bf174,
	0xe49b69c1, 0xefbe4786, 0x0fc19dc6, 0x240ca1cc, 0x2de92c6f, 0x4a7484aa, 0x5cb0a9dc, 0x76f988da,
	0x983e5152, 0xa831c66d, 0xb00327c8, 0xbf597fc7, 0xc6e00bf3, 0xd5a79147, 0x06ca6351, 0x14292967,
	0x27b70a85, 0x2e1b2138, 0x4d2c6dfc, 0x53380d13, 0x650a7354, 0x766a0abb, 0x81c2c92e, 0x92722c85,
	0xa2bfe8a1, 0xa81a664b, 0xc24b8b70, 0xc76c51a3, 0xd192e819, 0xd6990624, 0xf40e3585, 0x106aa070,
	0x19a4c116, 0x1e376c08, 0x2748774c, 0x34b0bcb5, 0x391c0cb3, 0x4ed8aa4a, 0x5b9cca4f, 0x682e6ff3,
	0x748f82ee, 0x78a5636f, 0x84c87814, 0x8cc70208, 0x90befffa, 0xa4506ceb, 0xbef9a3f7, 0xc67178f2,
}

// Of is the digest of a text, so many bytes of it.
func Of(width int, text string) string {
	state := squareRoots
	whole := len(text) - len(text)%blockSize
	// The text may be long: only what is behind its last whole block is copied.
	state = mixBlocks(state, text[:whole])
	state = mixBlocks(state, text[whole:]+padding(len(text)))
	return wordBytes(state)[:width]
}

// padding is what comes behind a text of that length.
func padding(length int) string {
	end := (length + 1 + lengthSize) % blockSize
	zeros := (blockSize - end) % blockSize
	return "\x80" + strings.Repeat("\x00", zeros) + eightBytes(uint64(length)*8)
}

// eightBytes is a number, the highest byte first.
func eightBytes(number uint64) string {
	var out [8]byte
	for i := range out {
		out[i] = byte(number >> (56 - 8*i))
	}
	return string(out[:])
}

func mixBlocks(state [stateSize]uint32, text string) [stateSize]uint32 {
	for ; len(text) >= blockSize; text = text[blockSize:] {
		state = mix(state, spread(text[:blockSize]))
	}
	return state
}

// spread makes the words of all rounds out of a block.
func spread(block string) [rounds]uint32 {
	var w [rounds]uint32
	for t := range 16 {
		for _, b := range []byte(block[4*t : 4*t+4]) {
			w[t] = w[t]<<8 | uint32(b)
		}
	}
	for t := 16; t < rounds; t++ {
		w[t] = smallOne(w[t-2]) + w[t-7] + smallZero(w[t-15]) + w[t-16]
	}
	return w
}

func mix(state [stateSize]uint32, w [rounds]uint32) [stateSize]uint32 {
	a, b, c, d := state[0], state[1], state[2], state[3]
	e, f, g, h := state[4], state[5], state[6], state[7]
	for t := range rounds {
		one := h + bigOne(e) + (e&f ^ ^e&g) + cubeRoots[t] + w[t]
		two := bigZero(a) + (a&b ^ a&c ^ b&c)
		h, g, f, e = g, f, e, d+one
		d, c, b, a = c, b, a, one+two
	}
	for i, x := range [stateSize]uint32{a, b, c, d, e, f, g, h} {
		state[i] += x
	}
	return state
}

func bigZero(x uint32) uint32   { return turn(x, 2) ^ turn(x, 13) ^ turn(x, 22) }
func bigOne(x uint32) uint32    { return turn(x, 6) ^ turn(x, 11) ^ turn(x, 25) }
func smallZero(x uint32) uint32 { return turn(x, 7) ^ turn(x, 18) ^ x>>3 }
func smallOne(x uint32) uint32  { return turn(x, 17) ^ turn(x, 19) ^ x>>10 }

// turn goes to the right, as the document's word does; the library's goes left.
func turn(x uint32, by int) uint32 { return bits.RotateLeft32(x, -by) }

func wordBytes(state [stateSize]uint32) string {
	var out [4 * stateSize]byte
	for i := range out {
		out[i] = byte(state[i/4] >> (24 - 8*(i%4)))
	}
	return string(out[:])
}
