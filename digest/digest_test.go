package digest

import (
	"crypto/sha256"
	"math/big"
	"strings"
	"testing"
)

func primes(count int) []int64 {
	var out []int64
	for n := int64(2); len(out) < count; n++ {
		if big.NewInt(n).ProbablyPrime(20) {
			out = append(out, n)
		}
	}
	return out
}

// fraction is the first 32 bits of the fractional part of the root of that degree.
func fraction(prime int64, degree uint) uint32 {
	target := new(big.Int).Lsh(big.NewInt(prime), 32*degree)
	root := new(big.Int)
	for at := 45; at >= 0; at-- {
		try := new(big.Int).SetBit(root, at, 1)
		if new(big.Int).Exp(try, big.NewInt(int64(degree)), nil).Cmp(target) <= 0 {
			root = try
		}
	}
	return uint32(root.Uint64())
}

func TestTablesAreRootsOfPrimes(t *testing.T) {
	list := primes(rounds)
	for i, want := range squareRoots {
		if got := fraction(list[i], 2); got != want {
			t.Errorf("squareRoots[%d] = %08x, want %08x", i, want, got)
		}
	}
	for i, want := range cubeRoots {
		if got := fraction(list[i], 3); got != want {
			t.Errorf("cubeRoots[%d] = %08x, want %08x", i, want, got)
		}
	}
}

// text is one of that length in which no two blocks are the same.
func text(length int) string {
	out := make([]byte, length)
	for i := range out {
		out[i] = byte(i*7 + i>>6*31 + i>>14)
	}
	return string(out)
}

func TestOfEveryLengthAboutBlocks(t *testing.T) {
	lengths := []int{1000, 4095, 4096, 4097, 1 << 20, 1<<20 + 55, 1<<20 + 56}
	for n := range 330 {
		lengths = append(lengths, n)
	}
	for _, n := range lengths {
		want := sha256.Sum256([]byte(text(n)))
		if got := Of(32, text(n)); got != string(want[:]) {
			t.Errorf("Of(32) of %d bytes = %x, want %x", n, got, want)
		}
	}
}

func TestOfEveryWidth(t *testing.T) {
	want := sha256.Sum256([]byte("abc"))
	for width := 1; width <= 32; width++ {
		if got := Of(width, "abc"); got != string(want[:width]) {
			t.Errorf("Of(%d) = %x, want %x", width, got, want[:width])
		}
	}
}

func TestPaddingIsAsShortAsMayBe(t *testing.T) {
	for n := range 300 {
		p := padding(n)
		if (n+len(p))%blockSize != 0 || len(p) < 9 || len(p) > 72 {
			t.Errorf("padding(%d) has %d bytes", n, len(p))
		}
	}
	// More bytes than a test can hold: the count of bits must not be cut off.
	if got := padding(1 << 40); !strings.HasSuffix(got, "\x00\x00\x08\x00\x00\x00\x00\x00") {
		t.Errorf("padding(1<<40) ends with %x", got[len(got)-8:])
	}
}

func TestTreeDigests(t *testing.T) {
	index := strings.Repeat("\x5a", 32)
	for _, width := range []int{1, 2, 31, 32} {
		h := func(parts ...string) string {
			sum := sha256.Sum256([]byte(strings.Join(parts, "")))
			return string(sum[:width])
		}
		for what, pair := range map[string][2]string{
			"Empty":          {Empty(width), h("\x00")},
			"Value":          {Value(width, "v"), h("\x04", "v")},
			"Value, no byte": {Value(width, ""), h("\x04")},
			"Leaf":           {Of(width, LeafText(index, Value(width, "v"))), h("\x01", index, h("\x04", "v"))},
			"Node":           {Of(width, NodeText(Empty(width), Value(width, "v"))), h("\x02", h("\x00"), h("\x04", "v"))},
			"FirstHead":      {FirstHead(width), h("\x03")},
			"Head":           {Head(width, "head", 1, "root"), h("\x03head\x00\x00\x00\x00\x00\x00\x00\x01root")},
			"Head, far on":   {Head(width, "head", 0x0102030405060708, "root"), h("\x03head\x01\x02\x03\x04\x05\x06\x07\x08root")},
		} {
			if pair[0] != pair[1] {
				t.Errorf("%s of the width %d = %x, want %x", what, width, pair[0], pair[1])
			}
		}
	}
}

func TestTreeTexts(t *testing.T) {
	for what, pair := range map[string][2]string{
		"EmptyText":          {EmptyText(), "\x00"},
		"ValueText":          {ValueText("v"), "\x04v"},
		"ValueText, no byte": {ValueText(""), "\x04"},
		"LeafText":           {LeafText("index", "digest"), "\x01indexdigest"},
		"NodeText":           {NodeText("zero", "one"), "\x02zeroone"},
	} {
		if pair[0] != pair[1] {
			t.Errorf("%s = %x, want %x", what, pair[0], pair[1])
		}
	}
}
