package proof

import (
	"math/rand"
	"strings"
	"testing"

	"thicket/api"
)

// slowVerify is P4 by writing: it looks for the siblings and the end of which
// the proof would be written, and holds what is written against the proof.
func slowVerify(root, index, text string) (api.Verdict, api.Errno) {
	width := len(root)
	if width < 1 || width > 32 || len(index) != 32 {
		return api.Verdict{}, api.ErrArg
	}
	wrong := api.Verdict{}
	if len(text) < 3 || text[0] > 2 {
		return wrong, api.ErrForm
	}
	d := int(text[1])*256 + int(text[2])
	size := (d + 7) / 8
	if d > 256 || len(text) < 3+size {
		return wrong, api.ErrForm
	}
	marks, rest := text[3:3+size], text[3+size:]
	var siblings []string
	for at := range d {
		if bitOf(marks, at) == 0 {
			siblings = append(siblings, h(width, "\x00"))
			continue
		}
		if len(rest) < width {
			return wrong, api.ErrForm
		}
		siblings = append(siblings, rest[:width])
		rest = rest[width:]
	}
	if written(width, text[0], siblings, rest) != text {
		return wrong, api.ErrForm
	}
	var end string
	verdict := absent
	switch text[0] {
	case 0:
		if len(rest) > 0 {
			return wrong, api.ErrForm
		}
		end = h(width, "\x00")
	case 1:
		if len(rest) > 100 {
			return wrong, api.ErrForm
		}
		end, verdict = h(width, "\x01", index, h(width, "\x04", rest)), present(rest)
	case 2:
		if len(rest) != 32+width || rest[:32] == index {
			return wrong, api.ErrForm
		}
		for at := range d {
			if bitOf(rest, at) != bitOf(index, at) {
				return wrong, api.ErrForm
			}
		}
		end = h(width, "\x01", rest)
	}
	if climbed(width, index, end, siblings) != root {
		return wrong, api.ErrRoot
	}
	return verdict, api.OK
}

func agree(t *testing.T, seen map[api.Errno]int, root, index, text string) {
	t.Helper()
	got, e := Verify(root, index, text)
	want, f := slowVerify(root, index, text)
	if got != want || e != f {
		t.Errorf("P4: Verify(%x, %x, %x) = %+v, %d, want %+v, %d", root, index, text, got, e, want, f)
	}
	seen[e]++
}

// mangled is a proof with something cut out, laid in or changed.
func mangled(r *rand.Rand, text string) string {
	at := r.Intn(len(text) + 1)
	if r.Intn(2) == 0 {
		at = r.Intn(min(len(text), 8) + 1)
	}
	switch r.Intn(5) {
	case 0:
		return text[:at]
	case 1:
		return text[:at] + string([]byte{byte(r.Intn(256))}) + text[at:]
	case 2:
		return text + strings.Repeat("\x00", r.Intn(140))
	}
	if at == len(text) {
		return text
	}
	return flip(text, 8*at+r.Intn(8))
}

// TestVerifyAgreesOnMangledProofs: no text makes it panic (P1), and all are
// answered as the slow one answers them. Narrow digests come out by chance too.
func TestVerifyAgreesOnMangledProofs(t *testing.T) {
	r := rand.New(rand.NewSource(3))
	seen := map[api.Errno]int{}
	for range 400 {
		width := []int{1, 1, 2, 4, 32}[r.Intn(5)]
		s := randomState(r, r.Intn(8))
		root := s.rootAt(width, 0)
		index := randomIndex(r)
		if len(s) > 0 {
			index = s.indexes()[r.Intn(len(s))]
		}
		if r.Intn(3) == 0 {
			index = flip(index, r.Intn(256))
		}
		text := s.proofOf(width, index)
		for range 40 {
			agree(t, seen, root, index, mangled(r, text))
		}
	}
	for _, e := range []api.Errno{api.OK, api.ErrForm, api.ErrRoot} {
		if seen[e] < 100 {
			t.Errorf("the answer %d came %d times only: the test says little of it", e, seen[e])
		}
	}
}

func TestVerifyAgreesOnShortTexts(t *testing.T) {
	seen := map[api.Errno]int{}
	for _, root := range []string{h(1, "\x00"), h(2, "\x00"), h(1, "\x01", from(""), h(1, "\x04"))} {
		for n := range 256 {
			b := string([]byte{byte(n)})
			for _, text := range []string{"", b, "\x00" + b, b + "\x00\x00", "\x00" + b + "\x00", "\x00\x00" + b, "\x00\x00\x01" + b, "\x01\x00\x00" + b, "\x00\x00\x08" + b} {
				agree(t, seen, root, from(""), text)
				agree(t, seen, root, from("\xff"), text)
			}
		}
	}
}

func FuzzVerify(f *testing.F) {
	f.Add(h(32, "\x00"), from(""), "\x00\x00\x00")
	f.Add("\x6e", from("\x80"), "\x01\x00\x01\x80\x01v")
	f.Add("\x6e", from("\x80"), "\x02\x00\x01\x80\x01"+from("\x81")+"x")
	f.Fuzz(func(t *testing.T, root, index, text string) {
		agree(t, map[api.Errno]int{}, root, index, text)
	})
}
