package proof

import (
	"fmt"
	"math/rand"
	"strconv"
	"strings"
	"testing"
	"unsafe"

	"thicket/api"
)

// claim is a proof in its parts.
type claim struct {
	kind     byte
	siblings []string
	end      string // what is written behind the siblings
}

func (c claim) written(width int) string { return written(width, c.kind, c.siblings, c.end) }

func (c claim) root(width int, index string) string { return h(width, c.textAt(width, index, 0)) }

// textAt is the text of which the digest at a depth is made, as the document tells it.
func (c claim) textAt(width int, index string, depth int) string {
	if depth < len(c.siblings) {
		under := h(width, c.textAt(width, index, depth+1))
		if bitOf(index, depth) == 1 {
			return "\x02" + c.siblings[depth] + under
		}
		return "\x02" + under + c.siblings[depth]
	}
	switch c.kind {
	case 1:
		return "\x01" + index + h(width, "\x04", c.end)
	case 2:
		return "\x01" + c.end
	}
	return "\x00"
}

func randomText(r *rand.Rand, size int) string {
	b := make([]byte, size)
	r.Read(b)
	return string(b)
}

// randomClaim has some siblings that are told it, and as many more as are asked for.
func randomClaim(r *rand.Rand, width int, index string, kind byte, top []string, more int) claim {
	c := claim{kind: kind, siblings: append([]string(nil), top...)}
	for range more {
		sibling := randomText(r, width)
		if r.Intn(4) == 0 {
			sibling = h(width, "\x00")
		}
		c.siblings = append(c.siblings, sibling)
	}
	switch kind {
	case 1:
		c.end = randomText(r, r.Intn(101))
	case 2:
		d := len(c.siblings)
		c.end = flip(index, d+r.Intn(256-d)) + randomText(r, width)
	}
	return c
}

// rival is a claim that comes out at the digest that another one has at a depth,
// by another text. Some have none that is short.
func rival(r *rand.Rand, width int, index string, of claim, depth int, kind byte, more int) (claim, bool) {
	text := of.textAt(width, index, depth)
	for range 3 << (8 * width) {
		c := randomClaim(r, width, index, kind, of.siblings[:depth], more)
		if made := c.textAt(width, index, depth); made != text && h(width, made) == h(width, text) {
			return c, true
		}
	}
	return claim{}, false
}

// rivals are an index and two claims of it that differ from a depth on.
func rivals(t *testing.T, r *rand.Rand, width, depth int, one, two byte, moreOne, moreTwo int) (string, claim, claim) {
	t.Helper()
	for range 100 {
		index := randomIndex(r)
		c := randomClaim(r, width, index, one, some(width, depth), moreOne)
		if d, found := rival(r, width, index, c, depth, two, moreTwo); found {
			return index, c, d
		}
	}
	t.Fatalf("width %d, depth %d, kinds %d and %d, %d and %d deeper: none is found", width, depth, one, two, moreOne, moreTwo)
	return "", claim{}, claim{}
}

// clashes looks at two proofs, in both orders: these are the texts.
func clashes(t *testing.T, what, root, index, one, two, a, b string) {
	t.Helper()
	if a == b || h(len(root), a) != h(len(root), b) {
		t.Fatalf("%s: the test itself is wrong: %x, %x", what, a, b)
	}
	if x, y, e := Clash(root, index, one, two); x != a || y != b || e != api.OK {
		t.Errorf("P5: %s: %x, %x, %d, want %x, %x", what, x, y, e, a, b)
	}
	if x, y, e := Clash(root, index, two, one); x != b || y != a || e != api.OK {
		t.Errorf("P5: %s, the other way: %x, %x, %d, want %x, %x", what, x, y, e, b, a)
	}
}

// noClash looks also that beside the error nothing else is told (P1).
func noClash(t *testing.T, what, root, index, one, two string, want api.Errno) {
	t.Helper()
	if x, y, e := Clash(root, index, one, two); x != "" || y != "" || e != want {
		t.Errorf("P5: %s: %x, %x, %d, want error %d", what, x, y, e, want)
	}
}

// clashesAt makes two claims that are the same up to a depth and differ from
// there on, and looks that the texts there are told.
func clashesAt(t *testing.T, r *rand.Rand, width, depth int, one, two byte, moreOne, moreTwo int) {
	t.Helper()
	index, c, d := rivals(t, r, width, depth, one, two, moreOne, moreTwo)
	what := fmt.Sprintf("width %d, depth %d, kinds %d and %d, %d and %d deeper", width, depth, one, two, moreOne, moreTwo)
	clashes(t, what, c.root(width, index), index, c.written(width), d.written(width),
		c.textAt(width, index, depth), d.textAt(width, index, depth))
}

// provable says if two kinds prove different things.
func provable(one, two byte) bool { return one == 1 || two == 1 }

func TestClashAtNodes(t *testing.T) {
	r := rand.New(rand.NewSource(11))
	for _, depth := range []int{0, 1, 2, 7, 8, 9, 30, 252} {
		for _, kinds := range [][2]byte{{0, 1}, {1, 0}, {1, 1}, {1, 2}, {2, 1}} {
			for _, more := range [][2]int{{1, 1}, {1, 3}, {3, 1}, {2, 2}, {3, 3}} {
				clashesAt(t, r, 1, depth, kinds[0], kinds[1], more[0], more[1])
			}
		}
	}
	clashesAt(t, r, 2, 0, 1, 0, 1, 1)
	clashesAt(t, r, 2, 3, 1, 2, 2, 1)
	clashesAt(t, r, 1, 255, 1, 0, 1, 1)
	clashesAt(t, r, 1, 255, 1, 1, 1, 1)
}

func TestClashWhereOneEndsFirst(t *testing.T) {
	r := rand.New(rand.NewSource(12))
	for _, depth := range []int{0, 1, 2, 7, 8, 9, 30, 252} {
		for _, more := range []int{1, 2, 3} {
			for kind := range byte(3) {
				for other := range byte(3) {
					if provable(kind, other) {
						clashesAt(t, r, 1, depth, kind, other, 0, more)
					}
				}
			}
		}
	}
	clashesAt(t, r, 2, 1, 1, 0, 0, 1)
	clashesAt(t, r, 2, 0, 2, 1, 0, 2)
	clashesAt(t, r, 1, 255, 1, 1, 0, 1)
	clashesAt(t, r, 1, 255, 0, 1, 0, 1)
}

func TestClashWhereBothEnd(t *testing.T) {
	r := rand.New(rand.NewSource(13))
	for _, depth := range []int{0, 1, 2, 7, 8, 9, 30, 255, 256} {
		clashesAt(t, r, 1, depth, 0, 1, 0, 0)
		clashesAt(t, r, 1, depth, 1, 1, 0, 0)
		if depth < 256 {
			clashesAt(t, r, 1, depth, 1, 2, 0, 0)
			clashesAt(t, r, 1, depth, 2, 1, 0, 0)
		}
	}
	clashesAt(t, r, 2, 0, 0, 1, 0, 0)
	clashesAt(t, r, 2, 2, 1, 1, 0, 0)
	clashesAt(t, r, 2, 9, 1, 2, 0, 0)
}

// twin is a value, other than the one told, with the same digest.
func twin(t *testing.T, width int, value string) string {
	t.Helper()
	for n := range 1 << 22 {
		if v := strconv.Itoa(n); v != value && h(width, "\x04", v) == h(width, "\x04", value) {
			return v
		}
	}
	t.Fatal("none is found")
	return ""
}

func TestClashOfValues(t *testing.T) {
	index := strings.Repeat("\x96", 32)
	for _, width := range []int{1, 2} {
		for _, value := range []string{"", "a", "\x00", strings.Repeat("v", 100)} {
			second := twin(t, width, value)
			for _, depth := range []int{0, 1, 8, 9, 256} {
				one, two := claim{1, some(width, depth), value}, claim{1, some(width, depth), second}
				clashes(t, "two values at the depth "+strconv.Itoa(depth), one.root(width, index), index,
					one.written(width), two.written(width), "\x04"+value, "\x04"+second)
			}
		}
	}
}

// TestClashOfTwinsUnderNodes: the values have one digest, but the nodes above
// them differ already, and are told first.
func TestClashOfTwinsUnderNodes(t *testing.T) {
	r := rand.New(rand.NewSource(14))
	index := randomIndex(r)
	second := twin(t, 1, "a")
	for _, depth := range []int{0, 1, 5} {
		one := randomClaim(r, 1, index, 1, some(1, depth), 2)
		one.end = "a"
		text := one.textAt(1, index, depth)
		two, made := one, text
		for made == text || h(1, made) != h(1, text) {
			two = randomClaim(r, 1, index, 1, some(1, depth), 2)
			two.end = second
			made = two.textAt(1, index, depth)
		}
		clashes(t, "two values of one digest", one.root(1, index), index, one.written(1), two.written(1), text, made)
	}
}

// TestClashWithAValueOfNoBytes: that nothing stands there is something else
// than that an empty value does.
func TestClashWithAValueOfNoBytes(t *testing.T) {
	index := from("\x42")
	empty := claim{kind: 1}
	r := rand.New(rand.NewSource(15))
	for _, kind := range []byte{0, 2} {
		nothing, found := rival(r, 1, index, empty, 0, kind, 2)
		if !found {
			t.Fatal("none is found")
		}
		clashes(t, "nothing", empty.root(1, index), index, empty.written(1), nothing.written(1),
			"\x01"+index+h(1, "\x04"), nothing.textAt(1, index, 0))
	}
}

// TestClashOfWhatStatesProve: a proof that is true in a state, and one that
// comes out at its root by chance (P11).
func TestClashOfWhatStatesProve(t *testing.T) {
	r := rand.New(rand.NewSource(16))
	for size := range 8 {
		s := randomState(r, size)
		root := s.rootAt(1, 0)
		for _, index := range append(s.indexes(), randomIndex(r)) {
			good := s.proofOf(1, index)
			verdict, _ := Verify(root, index, good)
			lie := randomClaim(r, 1, index, 1, nil, r.Intn(3))
			for lie.root(1, index) != root || present(lie.end) == verdict {
				lie = randomClaim(r, 1, index, 1, nil, r.Intn(3))
			}
			a, b, e := Clash(root, index, good, lie.written(1))
			if e != api.OK || a == b || h(1, a) != h(1, b) {
				t.Errorf("P5: %x, %x, %d: these are no two texts with one digest", a, b, e)
			}
			noClash(t, "one proof twice", root, index, good, good, api.ErrArg)
		}
	}
}

func TestClashOfWrongArguments(t *testing.T) {
	// ErrArg is told ahead of all that the proofs would be.
	none, index := h(32, "\x00"), from("")
	for _, one := range []string{"", "\x00\x00\x00", "\x00\x00\x01\x00", "\x07"} {
		for _, two := range []string{"", "\x00\x00\x00", "\x00\x00\x01\x00", "\x07"} {
			for _, size := range []int{0, 33, 34, 64, 257} {
				noClash(t, "a root of a wrong size", strings.Repeat("r", size), index, one, two, api.ErrArg)
			}
			for _, size := range []int{0, 1, 31, 33, 64} {
				noClash(t, "an index of a wrong size", none, strings.Repeat("i", size), one, two, api.ErrArg)
				noClash(t, "both", "", strings.Repeat("i", size), one, two, api.ErrArg)
			}
		}
	}
}

func TestClashOfWrongProofs(t *testing.T) {
	index := from("\x13")
	for _, width := range []int{1, 2, 32} {
		good := claim{1, some(width, 2), "v"}
		root := good.root(width, index)
		text := good.written(width)
		form, strange := text[:4], written(width, 1, some(width, 2), "w")
		if h(width, "\x04v") == h(width, "\x04w") || (claim{1, good.siblings, "w"}).root(width, index) == root {
			t.Fatal("the test itself is wrong")
		}
		noClash(t, "one is no proof", root, index, form, text, api.ErrForm)
		noClash(t, "one is of another root", root, index, strange, text, api.ErrRoot)
		noClash(t, "two is no proof", root, index, text, form, api.ErrForm)
		noClash(t, "two is of another root", root, index, text, strange, api.ErrRoot)
		noClash(t, "what one is comes first", root, index, form, strange, api.ErrForm)
		noClash(t, "what one is comes first", root, index, strange, form, api.ErrRoot)
		noClash(t, "both are no proofs", root, index, form, form, api.ErrForm)
		noClash(t, "both are of another root", root, index, strange, strange, api.ErrRoot)
	}
}

func TestClashOfProofsThatProveTheSame(t *testing.T) {
	r := rand.New(rand.NewSource(17))
	index := randomIndex(r)
	for _, width := range []int{1, 32} {
		for kind := range byte(3) {
			for _, depth := range []int{0, 1, 9, 255} {
				c := randomClaim(r, width, index, kind, some(width, depth), 0)
				noClash(t, "the same proof", c.root(width, index), index, c.written(width), strings.Clone(c.written(width)), api.ErrArg)
			}
		}
	}
	for _, kinds := range [][2]byte{{0, 0}, {0, 2}, {2, 0}, {2, 2}} {
		for _, depth := range []int{0, 1, 9} {
			for _, more := range []int{2, 3} {
				index, c, d := rivals(t, r, 1, depth, kinds[0], kinds[1], 0, more)
				noClash(t, "both prove that nothing is there", c.root(1, index), index, c.written(1), d.written(1), api.ErrArg)
			}
		}
	}
	for _, more := range []int{2, 3} {
		one := claim{1, some(1, 2), "v"}
		two := one
		for two.written(1) == one.written(1) || two.root(1, index) != one.root(1, index) {
			two = randomClaim(r, 1, index, 1, some(1, 2), more)
			two.end = "v"
		}
		noClash(t, "both prove one value", one.root(1, index), index, one.written(1), two.written(1), api.ErrArg)
	}
}

func TestClashGivesNewMemory(t *testing.T) {
	index := from("\x01")
	one := claim{1, nil, strings.Repeat("v", 50)}
	two := claim{1, nil, twin(t, 1, one.end)}
	first, second := one.written(1), two.written(1)
	a, b, _ := Clash(one.root(1, index), index, first, second)
	for _, pair := range [][2]string{{a, first}, {b, second}} {
		begin := uintptr(unsafe.Pointer(unsafe.StringData(pair[1])))
		at := uintptr(unsafe.Pointer(unsafe.StringData(pair[0])))
		if pair[0] == "" || begin <= at && at < begin+uintptr(len(pair[1])) {
			t.Error("P2: the text is a piece of the proof")
		}
	}
}
