package proof

import (
	"maps"
	"math/rand"
	"slices"
	"strconv"
	"strings"
	"testing"

	"thicket/api"
)

// slowVerify is P4 by writing: it looks for the siblings and the end of which
// the proof would be written, and holds what is written against the proof.
func slowVerify(root, index, text string) (api.Verdict, api.Errno) {
	width := len(root)
	if width < 1 || width > 32 || len(index) != 32 {
		return api.Verdict{}, api.ErrArg
	}
	wrong := api.Verdict{}
	if len(text) < 3 || text[0] > 2 {
		return wrong, api.ErrForm
	}
	d := int(text[1])*256 + int(text[2])
	size := (d + 7) / 8
	if d > 256 || len(text) < 3+size {
		return wrong, api.ErrForm
	}
	marks, rest := text[3:3+size], text[3+size:]
	var siblings []string
	for at := range d {
		if bitOf(marks, at) == 0 {
			siblings = append(siblings, h(width, "\x00"))
			continue
		}
		if len(rest) < width {
			return wrong, api.ErrForm
		}
		siblings = append(siblings, rest[:width])
		rest = rest[width:]
	}
	if written(width, text[0], siblings, rest) != text {
		return wrong, api.ErrForm
	}
	var end string
	verdict := absent
	switch text[0] {
	case 0:
		if len(rest) > 0 {
			return wrong, api.ErrForm
		}
		end = h(width, "\x00")
	case 1:
		if len(rest) > 100 {
			return wrong, api.ErrForm
		}
		end, verdict = h(width, "\x01", index, h(width, "\x04", rest)), present(rest)
	case 2:
		if len(rest) != 32+width || rest[:32] == index {
			return wrong, api.ErrForm
		}
		for at := range d {
			if bitOf(rest, at) != bitOf(index, at) {
				return wrong, api.ErrForm
			}
		}
		end = h(width, "\x01", rest)
	}
	if climbed(width, index, end, siblings) != root {
		return wrong, api.ErrRoot
	}
	return verdict, api.OK
}

func agree(t *testing.T, seen map[api.Errno]int, root, index, text string) {
	t.Helper()
	got, e := Verify(root, index, text)
	want, f := slowVerify(root, index, text)
	if got != want || e != f {
		t.Errorf("P4: Verify(%x, %x, %x) = %+v, %d, want %+v, %d", root, index, text, got, e, want, f)
	}
	seen[e]++
}

// mangled is a proof with something cut out, laid in or changed.
func mangled(r *rand.Rand, text string) string {
	at := r.Intn(len(text) + 1)
	if r.Intn(2) == 0 {
		at = r.Intn(min(len(text), 8) + 1)
	}
	switch r.Intn(5) {
	case 0:
		return text[:at]
	case 1:
		return text[:at] + string([]byte{byte(r.Intn(256))}) + text[at:]
	case 2:
		return text + strings.Repeat("\x00", r.Intn(140))
	}
	if at == len(text) {
		return text
	}
	return flip(text, 8*at+r.Intn(8))
}

// TestVerifyAgreesOnMangledProofs: no text makes it panic (P1), and all are
// answered as the slow one answers them. Narrow digests come out by chance too.
func TestVerifyAgreesOnMangledProofs(t *testing.T) {
	r := rand.New(rand.NewSource(3))
	seen := map[api.Errno]int{}
	for range 400 {
		width := []int{1, 1, 2, 4, 32}[r.Intn(5)]
		s := randomState(r, r.Intn(8))
		root := s.rootAt(width, 0)
		index := randomIndex(r)
		if len(s) > 0 {
			index = s.indexes()[r.Intn(len(s))]
		}
		if r.Intn(3) == 0 {
			index = flip(index, r.Intn(256))
		}
		text := s.proofOf(width, index)
		for range 40 {
			agree(t, seen, root, index, mangled(r, text))
		}
	}
	for _, e := range []api.Errno{api.OK, api.ErrForm, api.ErrRoot} {
		if seen[e] < 100 {
			t.Errorf("the answer %d came %d times only: the test says little of it", e, seen[e])
		}
	}
}

func TestVerifyAgreesOnShortTexts(t *testing.T) {
	seen := map[api.Errno]int{}
	for _, root := range []string{h(1, "\x00"), h(2, "\x00"), h(1, "\x01", from(""), h(1, "\x04"))} {
		for n := range 256 {
			b := string([]byte{byte(n)})
			for _, text := range []string{"", b, "\x00" + b, b + "\x00\x00", "\x00" + b + "\x00", "\x00\x00" + b, "\x00\x00\x01" + b, "\x01\x00\x00" + b, "\x00\x00\x08" + b} {
				agree(t, seen, root, from(""), text)
				agree(t, seen, root, from("\xff"), text)
			}
		}
	}
}

func FuzzVerify(f *testing.F) {
	f.Add(h(32, "\x00"), from(""), "\x00\x00\x00")
	f.Add("\x6e", from("\x80"), "\x01\x00\x01\x80\x01v")
	f.Add("\x6e", from("\x80"), "\x02\x00\x01\x80\x01"+from("\x81")+"x")
	f.Fuzz(func(t *testing.T, root, index, text string) {
		agree(t, map[api.Errno]int{}, root, index, text)
	})
}

// claimOf is a proof, which Verify takes, in its parts.
func claimOf(width int, text string) claim {
	d := int(text[1])*256 + int(text[2])
	c := claim{kind: text[0]}
	marks, rest := text[3:3+(d+7)/8], text[3+(d+7)/8:]
	for at := range d {
		if bitOf(marks, at) == 0 {
			c.siblings = append(c.siblings, h(width, "\x00"))
			continue
		}
		c.siblings, rest = append(c.siblings, rest[:width]), rest[width:]
	}
	c.end = rest
	return c
}

// slowClash is P5 by the document's words, step by step.
func slowClash(root, index, one, two string) (string, string, api.Errno) {
	v, e := slowVerify(root, index, one)
	if e != api.OK {
		return "", "", e
	}
	u, e := slowVerify(root, index, two)
	if e != api.OK {
		return "", "", e
	}
	if v == u {
		return "", "", api.ErrArg
	}
	width := len(root)
	c, d := claimOf(width, one), claimOf(width, two)
	for depth := 0; ; depth++ {
		a, b := c.textAt(width, index, depth), d.textAt(width, index, depth)
		if a != b {
			return a, b, api.OK
		}
		if len(c.siblings) == depth {
			return "\x04" + c.end, "\x04" + d.end, api.OK
		}
	}
}

func agreeOnClash(t *testing.T, seen map[string]int, root, index, one, two string) {
	t.Helper()
	a, b, e := Clash(root, index, one, two)
	x, y, f := slowClash(root, index, one, two)
	if a != x || b != y || e != f {
		t.Errorf("P5: Clash(%x, %x, %x, %x) = %x, %x, %d, want %x, %x, %d", root, index, one, two, a, b, e, x, y, f)
	}
	if e != api.OK {
		seen["error "+strconv.Itoa(int(e))]++
		return
	}
	if a == b || h(len(root), a) != h(len(root), b) {
		t.Errorf("P5: %x, %x: these are no two texts with one digest", a, b)
	}
	seen[strconv.Itoa(int(a[0]))+" and "+strconv.Itoa(int(b[0]))]++
}

// TestClashAgreesOnChance: digests of one byte, of which many come out at one
// root by chance; some proofs are mangled behind that.
func TestClashAgreesOnChance(t *testing.T) {
	r := rand.New(rand.NewSource(4))
	seen := map[string]int{}
	for range 12 {
		index := randomIndex(r)
		byRoot := map[string][]string{}
		for range 1500 {
			c := randomClaim(r, 1, index, byte(r.Intn(3)), some(1, r.Intn(2)), r.Intn(3))
			root := c.root(1, index)
			byRoot[root] = append(byRoot[root], c.written(1))
		}
		for _, root := range slices.Sorted(maps.Keys(byRoot)) {
			texts := byRoot[root]
			for range 20 {
				one, two := texts[r.Intn(len(texts))], texts[r.Intn(len(texts))]
				agreeOnClash(t, seen, root, index, one, two)
				agreeOnClash(t, seen, root, index, mangled(r, one), two)
				agreeOnClash(t, seen, root, index, one, mangled(r, two))
			}
		}
	}
	for _, what := range []string{"error 1", "error 2", "error 3", "0 and 1", "1 and 0", "0 and 2", "2 and 0", "1 and 1", "1 and 2", "2 and 1", "2 and 2", "4 and 4"} {
		if seen[what] < 3 {
			t.Errorf("%s came %d times only: the test says little of it", what, seen[what])
		}
	}
}

func FuzzClash(f *testing.F) {
	f.Add(h(32, "\x00"), from(""), "\x00\x00\x00", "\x00\x00\x00")
	f.Add("\x6e", from("\x80"), "\x00\x00\x00", "\x01\x00\x01\x80\x01v")
	f.Add("\x6e", from("\x80"), "\x01\x00\x00v", "\x02\x00\x01\x80\x01"+from("\x81")+"x")
	f.Fuzz(func(t *testing.T, root, index, one, two string) {
		agreeOnClash(t, map[string]int{}, root, index, one, two)
	})
}
