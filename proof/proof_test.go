package proof

import (
	"crypto/sha256"
	"math"
	"math/rand"
	"strconv"
	"strings"
	"testing"
	"unsafe"

	"thicket/api"
)

var absent = api.Verdict{Kind: api.Absent}

func present(value string) api.Verdict { return api.Verdict{Kind: api.Present, Value: value} }

func takes(t *testing.T, what, root, index, text string, want api.Verdict) {
	t.Helper()
	if got, e := Verify(root, index, text); got != want || e != api.OK {
		t.Errorf("P4: %s: %+v, %d, want %+v", what, got, e, want)
	}
}

// refuses looks also that beside the error nothing else is told (P1).
func refuses(t *testing.T, what, root, index, text string, want api.Errno) {
	t.Helper()
	if got, e := Verify(root, index, text); got != (api.Verdict{}) || e != want {
		t.Errorf("P4: %s: %+v, %d, want error %d", what, got, e, want)
	}
}

func TestDigestAboutBlocks(t *testing.T) {
	for _, n := range []int{0, 1, 54, 55, 56, 57, 63, 64, 65, 118, 119, 120, 121, 127, 128, 129, 10000} {
		text := strings.Repeat("\x00\xff\x80z", n/4+1)[:n]
		want := sha256.Sum256([]byte(text))
		for _, width := range []int{1, 2, 31, 32} {
			if got, e := Digest(width, text); got != string(want[:width]) || e != api.OK {
				t.Errorf("P3: Digest(%d) of %d bytes = %x, %d, want %x", width, n, got, e, want[:width])
			}
		}
	}
}

func TestDigestExamples(t *testing.T) {
	if got, e := Digest(32, "abc"); !strings.HasPrefix(got, "\xba\x78\x16\xbf\x8f\x01\xcf\xea") || len(got) != 32 || e != api.OK {
		t.Errorf("P3: Digest(32, abc) = %x, %d", got, e)
	}
	if got, e := Digest(2, "abc"); got != "\xba\x78" || e != api.OK {
		t.Errorf("P3: Digest(2, abc) = %x, %d", got, e)
	}
	if got, e := Digest(2, "\x00"); got != "\x6e\x34" || e != api.OK {
		t.Errorf("P3: Digest(2, 00) = %x, %d", got, e)
	}
}

func TestDigestOfWrongWidths(t *testing.T) {
	for _, width := range []int{0, 33, -1, 34, 64, 256, 257, math.MaxInt, math.MinInt} {
		for _, text := range []string{"", "abc"} {
			if got, e := Digest(width, text); got != "" || e != api.ErrArg {
				t.Errorf("P3: Digest(%d) = %x, %d, want ErrArg", width, got, e)
			}
		}
	}
}

func TestVerifyExamples(t *testing.T) {
	takes(t, "the empty directory", "\x6e\x34", from("\x99"), "\x00\x00\x00", absent)
	for _, width := range []int{2, 32} {
		zero, one := from(""), from("\x80")
		la := h(width, "\x01", zero, h(width, "\x04", "a"))
		lb := h(width, "\x01", one, h(width, "\x04", "b"))
		root := h(width, "\x02", la, lb)
		takes(t, "00..", root, zero, "\x01\x00\x01\x80"+lb+"a", present("a"))
		takes(t, "80..", root, one, "\x01\x00\x01\x80"+la+"b", present("b"))
		takes(t, "40..", root, from("\x40"), "\x02\x00\x01\x80"+lb+zero+h(width, "\x04", "a"), absent)
	}
}

func TestVerifyOfStates(t *testing.T) {
	r := rand.New(rand.NewSource(1))
	for _, width := range []int{1, 2, 8, 31, 32} {
		for size := range 12 {
			s := randomState(r, size)
			root := s.rootAt(width, 0)
			for _, index := range s.indexes() {
				takes(t, "it is there", root, index, s.proofOf(width, index), present(s[index]))
				near := flip(index, r.Intn(256))
				if _, there := s[near]; !there {
					takes(t, "it is not there", root, near, s.proofOf(width, near), absent)
				}
			}
			far := randomIndex(r)
			takes(t, "it is nowhere near", root, far, s.proofOf(width, far), absent)
		}
	}
}

func TestVerifyOfNeighbours(t *testing.T) {
	// Indexes that only the last bit, or the one ahead of it, tells apart.
	a := strings.Repeat("\xa5", 32)
	s := state{a: "1", flip(a, 255): "2"}
	for _, width := range []int{4, 32} {
		root := s.rootAt(width, 0)
		takes(t, "d is 256", root, a, s.proofOf(width, a), present("1"))
		takes(t, "d is 256", root, flip(a, 255), s.proofOf(width, flip(a, 255)), present("2"))
		takes(t, "d is 255", root, flip(a, 254), s.proofOf(width, flip(a, 254)), absent)
		takes(t, "d is 1", root, flip(a, 0), s.proofOf(width, flip(a, 0)), absent)
	}
}

func TestVerifyAtEveryDepth(t *testing.T) {
	index := strings.Repeat("\x3c\xa5", 16)
	for _, width := range []int{1, 4, 32} {
		for depth := range 257 {
			siblings := some(width, depth)
			what := "d is " + strconv.Itoa(depth)
			root := climbed(width, index, h(width, "\x00"), siblings)
			takes(t, what, root, index, written(width, 0, siblings, ""), absent)
			root = climbed(width, index, h(width, "\x01", index, h(width, "\x04", "v")), siblings)
			takes(t, what, root, index, written(width, 1, siblings, "v"), present("v"))
			if depth == 256 {
				continue
			}
			other, value := flip(index, depth), h(width, "\x04", "w")
			root = climbed(width, index, h(width, "\x01", other, value), siblings)
			takes(t, what, root, index, written(width, 2, siblings, other+value), absent)
		}
	}
}

func TestVerifyOfTreesThatNoStateHas(t *testing.T) {
	// P11: a node of two empty trees is taken, if it comes out at the root.
	none := h(32, "\x00")
	takes(t, "two empty trees", h(32, "\x02", none, none), from("\xff"), "\x00\x00\x01\x00", absent)
}

func TestVerifyOfValueSizes(t *testing.T) {
	index := from("\x11")
	for _, width := range []int{1, 32} {
		for _, size := range []int{0, 1, 99, 100, 101, 102, 1000} {
			value := strings.Repeat("\x04", size)
			for _, siblings := range [][]string{nil, some(width, 9)} {
				root := climbed(width, index, h(width, "\x01", index, h(width, "\x04", value)), siblings)
				text := written(width, 1, siblings, value)
				if size <= 100 {
					takes(t, "a value of "+strconv.Itoa(size), root, index, text, present(value))
				} else {
					refuses(t, "a value of "+strconv.Itoa(size), root, index, text, api.ErrForm)
				}
			}
		}
	}
}

func TestVerifyOfWrongArguments(t *testing.T) {
	// ErrArg is told ahead of ErrForm, which the proofs here would be too.
	for _, text := range []string{"", "\x00\x00\x00", "\x07", strings.Repeat("\xff", 500)} {
		for _, size := range []int{0, 33, 34, 64, 257} {
			refuses(t, "a root of a wrong size", strings.Repeat("r", size), from(""), text, api.ErrArg)
		}
		for _, size := range []int{0, 1, 31, 33, 64} {
			refuses(t, "an index of a wrong size", h(32, "\x00"), strings.Repeat("i", size), text, api.ErrArg)
			refuses(t, "both", "", strings.Repeat("i", size), text, api.ErrArg)
		}
	}
}

// TestVerifyOfWrongForms has proofs that would come out at the root, were the
// one thing that is wrong not asked: so ErrForm is not told by chance.
func TestVerifyOfWrongForms(t *testing.T) {
	for _, width := range []int{1, 4, 31, 32} {
		index, none := from("\xc3"), h(width, "\x00")
		siblings := some(width, 3)
		leaf := h(width, "\x01", index, h(width, "\x04", "v"))
		here, good := climbed(width, index, leaf, siblings), written(width, 1, siblings, "v")
		takes(t, "it is right", here, index, good, present("v"))

		for kind := 3; kind < 256; kind++ {
			refuses(t, "the kind is none", here, index, string([]byte{byte(kind)})+good[1:], api.ErrForm)
		}
		for n := range len(good) - 1 {
			if n < 4+2*width {
				refuses(t, "bytes are missing", here, index, good[:n], api.ErrForm)
			}
		}
		for _, mark := range []byte{1, 2, 4, 8, 16, 31} {
			marks := string([]byte{good[3] | mark})
			refuses(t, "a bit behind the d bits", here, index, good[:3]+marks+good[4:], api.ErrForm)
		}
		refuses(t, "the sibling is the empty tree's", here, index,
			"\x01\x00\x03\xe0"+siblings[0]+siblings[1]+none+"v", api.ErrForm)
		refuses(t, "a byte behind the end", climbed(width, index, none, siblings), index,
			written(width, 0, siblings, "")+"\x00", api.ErrForm)
		refuses(t, "the marks are missing", none, index, "\x00\x00\x08", api.ErrForm)
		refuses(t, "a mark too few", none, index, "\x00\x00\x09\x00", api.ErrForm)
		refuses(t, "marks too many", h(width, "\x02", none, none), index, "\x00\x00\x01\x00\x00", api.ErrForm)
	}
}

func TestVerifyOfTooManyDepths(t *testing.T) {
	index := from("")
	for _, width := range []int{1, 32} {
		for kind := range byte(3) {
			for _, d := range []int{257, 258, 264, 512, 513, 65535} {
				head := string([]byte{kind, byte(d >> 8), byte(d)})
				for _, marks := range []int{0, 1, 32, 33, (d + 7) / 8} {
					text := head + strings.Repeat("\x00", marks)
					refuses(t, "d is "+strconv.Itoa(d), h(width, "\x00"), index, text, api.ErrForm)
				}
			}
		}
	}
}

func TestVerifyOfWrongOtherIndexes(t *testing.T) {
	index := strings.Repeat("\x69", 32)
	for _, width := range []int{1, 4, 32} {
		value := h(width, "\x04", "w")
		for _, depth := range []int{0, 1, 7, 8, 9, 255, 256} {
			siblings := some(width, depth)
			under := func(other string) string {
				return climbed(width, index, h(width, "\x01", other, value), siblings)
			}
			refuses(t, "the other one is this one", under(index), index, written(width, 2, siblings, index+value), api.ErrForm)
			for at := range depth {
				other := flip(index, at)
				refuses(t, "it has not the first d bits", under(other), index, written(width, 2, siblings, other+value), api.ErrForm)
			}
			if depth == 256 {
				continue
			}
			good, root := written(width, 2, siblings, flip(index, depth)+value), under(flip(index, depth))
			takes(t, "it is right", root, index, good, absent)
			refuses(t, "a byte behind", root, index, good+"\x00", api.ErrForm)
			for n := 1; n <= 32+width; n++ {
				refuses(t, "the end is cut off", root, index, good[:len(good)-n], api.ErrForm)
			}
		}
	}
}

func TestVerifyOfOtherRoots(t *testing.T) {
	r := rand.New(rand.NewSource(2))
	for _, width := range []int{8, 32} {
		s := randomState(r, 9)
		root := s.rootAt(width, 0)
		for _, index := range append(s.indexes(), randomIndex(r)) {
			good := s.proofOf(width, index)
			for at := range width {
				refuses(t, "another root", flip(root, 8*at+at%8), index, good, api.ErrRoot)
			}
			refuses(t, "the root of nothing", h(width, "\x00"), index, good, api.ErrRoot)
		}
		index := s.indexes()[4]
		good := s.proofOf(width, index)
		if len(s[index]) < 100 {
			refuses(t, "another value", root, index, good+"x", api.ErrRoot)
		}
		for at := range 256 {
			refuses(t, "the proof of another index", root, flip(index, at), good, api.ErrRoot)
		}
	}
}

func TestVerifyLeansOnEachSibling(t *testing.T) {
	index := from("\x5a")
	siblings := some(32, 20)
	root := climbed(32, index, h(32, "\x00"), siblings)
	for at := range siblings {
		changed := append([]string(nil), siblings...)
		changed[at] = h(32, "another")
		refuses(t, "another sibling", root, index, written(32, 0, changed, ""), api.ErrRoot)
		// The index's bit says on which side it stands.
		refuses(t, "another side", root, flip(index, at), written(32, 0, siblings, ""), api.ErrRoot)
	}
}

func TestVerifyOfValueDigests(t *testing.T) {
	// Of kind 2 the digest that is told stands in the leaf, not one made of it.
	index, other := from("\x01"), from("\x02")
	value := h(32, "\x04", "w")
	root := h(32, "\x01", other, value)
	takes(t, "the digest of the value", root, index, "\x02\x00\x00"+other+value, absent)
	refuses(t, "another digest", root, index, "\x02\x00\x00"+other+h(32, "\x04", "x"), api.ErrRoot)
	refuses(t, "a leaf under the other kind", root, other, "\x01\x00\x00"+value, api.ErrRoot)
	takes(t, "it is the other's", root, other, "\x01\x00\x00w", present("w"))
}

func TestVerifyGivesNewMemory(t *testing.T) {
	index, value := from("\x01"), strings.Repeat("v", 50)
	text := "\x01\x00\x00" + value
	got, _ := Verify(h(32, "\x01", index, h(32, "\x04", value)), index, text)
	if got.Value != value {
		t.Fatalf("P4: %q", got.Value)
	}
	if unsafe.StringData(got.Value) == unsafe.StringData(text[3:]) {
		t.Error("P2: the value is a piece of the proof")
	}
}
