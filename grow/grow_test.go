package grow

import (
	"math/rand"
	"slices"
	"strings"
	"testing"

	"thicket/api"
	"thicket/digest"
	"thicket/gather"
)

// from is the index that begins with some bytes and goes on with zeros.
func from(start string) string { return start + strings.Repeat("\x00", 32-len(start)) }

// twin is the index that parts from another one at the last bit.
func twin(index string) string { return index[:31] + string([]byte{index[31] ^ 1}) }

func put(index, value string) api.Update { return api.Update{Index: index, Value: value} }
func gone(index string) api.Update       { return api.Update{Index: index, Gone: true} }

// some is entries under random indexes that begin with some bytes, sorted.
func some(seed int64, count int, start string) []api.Update {
	r := rand.New(rand.NewSource(seed))
	var out []api.Update
	for range count {
		b := make([]byte, 32)
		r.Read(b)
		copy(b, start)
		out = append(out, put(string(b), string(b[30:])))
	}
	slices.SortFunc(out, func(a, b api.Update) int { return strings.Compare(a.Index, b.Index) })
	return out
}

func grown(t *testing.T, trees *Trees, want api.Errno, changes ...api.Update) {
	t.Helper()
	if got := trees.Next(changes); got != want {
		t.Fatalf("Next(%d changes) = %d, want %d", len(changes), got, want)
	}
	sound(t, trees)
}

// leaning counts what leans on each cell under a tree.
func leaning(c *cell, holds map[*cell]int) {
	if c == nil {
		return
	}
	if holds[c]++; holds[c] == 1 {
		leaning(c.zero, holds)
		leaning(c.one, holds)
	}
}

// sound looks that each cell knows what leans on it, that no cell is counted that is
// none, and that each has its digest.
func sound(t *testing.T, trees *Trees) {
	t.Helper()
	holds := map[*cell]int{}
	for _, top := range trees.tops {
		leaning(top, holds)
	}
	if trees.cells != len(holds) || trees.cells > trees.room {
		t.Fatalf("%d cells are counted, %d are there, room is for %d", trees.cells, len(holds), trees.room)
	}
	for c, want := range holds {
		if c.holds != want || isFresh(c) || c.digest != slow(trees.width, c) {
			t.Fatalf("a cell has %d holds, want %d, and the digest %x, want %x", c.holds, want, c.digest, slow(trees.width, c))
		}
	}
	if last := trees.Entries(len(trees.tops) - 1); len(last) != trees.size {
		t.Fatalf("%d entries are counted, %d are there", trees.size, len(last))
	}
}

// slow is the digest of a cell, of those under it.
func slow(width int, c *cell) string {
	if c.isLeaf() {
		return digest.Of(width, digest.LeafText(c.index, digest.Value(width, c.value)))
	}
	under := []string{digest.Empty(width), digest.Empty(width)}
	for i, half := range []*cell{c.zero, c.one} {
		if half != nil {
			under[i] = half.digest
		}
	}
	return digest.Of(width, digest.NodeText(under[0], under[1]))
}

func TestWhatHasNotChangedIsShared(t *testing.T) {
	trees := New(32, 1000)
	grown(t, trees, api.OK, put(from("\x00"), "a"), put(from("\x40"), "b"), put(from("\x80"), "c"), put(from("\xc0"), "d"))
	grown(t, trees, api.OK, put(from("\x40"), "x"))
	one, two := trees.tops[1], trees.tops[2]
	if one == two || one.zero == two.zero || one.zero.one == two.zero.one {
		t.Errorf("a cell on the way of the change is shared")
	}
	if one.one != two.one || one.zero.zero != two.zero.zero {
		t.Errorf("a cell beside the way of the change is not shared")
	}
	grown(t, trees, api.OK)
	grown(t, trees, api.OK, put(from("\x40"), "x"), gone(from("\x41")))
	if trees.tops[3] != two || trees.tops[4] != two {
		t.Errorf("nothing has changed, and yet the tree is another one")
	}
}

func TestLeafMovesAndStaysTheSame(t *testing.T) {
	trees := New(32, 1000)
	one := from("\x12")
	grown(t, trees, api.OK, put(one, "v"))
	leaf := trees.tops[1]
	grown(t, trees, api.OK, put(twin(one), "w"))
	if trees.tops[2].find(one) != leaf {
		t.Errorf("the leaf that went down is another one")
	}
	grown(t, trees, api.OK, gone(twin(one)))
	if trees.tops[3] != leaf {
		t.Errorf("the leaf that went up is another one")
	}
	grown(t, trees, api.OK, gone(one))
	grown(t, trees, api.OK, put(one, "v"))
	if trees.tops[4] != nil || trees.tops[5] == leaf {
		t.Errorf("the leaf that was gone is the same")
	}
}

// TestRefusedBatchIsLetGo: nothing leans any more on what is shared.
func TestRefusedBatchIsLetGo(t *testing.T) {
	trees := New(4, 300)
	list := some(1, 40, "")
	grown(t, trees, api.OK, list...)
	before := slices.Clone(trees.tops)
	for _, u := range list {
		grown(t, trees, api.ErrFull, put(twin(u.Index), "too deep"))
		grown(t, trees, api.ErrFull, some(2, 150, "")...)
	}
	grown(t, trees, api.ErrLong, some(2, 1961, "")...)
	if !slices.Equal(before, trees.tops) {
		t.Errorf("a refused batch left another tree")
	}
	grown(t, trees, api.OK, gone(list[0].Index))
	trees.Forget(2)
	sound(t, trees)
}

func TestForget(t *testing.T) {
	r := rand.New(rand.NewSource(4))
	trees := New(2, 100000)
	list := some(5, 60, "")
	for range 300 {
		from := r.Intn(len(list))
		changes := slices.Clone(list[from:min(len(list), from+r.Intn(20))])
		for i := range changes {
			if changes[i].Value = "other"; r.Intn(2) == 0 {
				changes[i] = gone(changes[i].Index)
			}
		}
		grown(t, trees, api.OK, changes...)
		trees.Forget(r.Intn(min(4, len(trees.tops))))
		sound(t, trees)
	}
	trees.Forget(len(trees.tops) - 1)
	sound(t, trees)
}

// planted is a tree whose digests are not worked out.
func planted(entries []api.Update) (*Trees, *cell) {
	trees := New(32, 100000)
	return trees, trees.grow(nil, 0, entries)
}

// count counts how often each cell stands under trees.
func count(tops []*cell) map[*cell]int {
	out := map[*cell]int{}
	for level := tops; len(level) > 0; level = under(level) {
		for _, c := range level {
			out[c]++
		}
	}
	return out
}

func TestParts(t *testing.T) {
	for what, run := range map[string]struct {
		entries     []api.Update
		least, most int
	}{
		"nothing":           {nil, 0, 0},
		"one leaf":          {some(1, 1, ""), 1, 1},
		"two":               {[]api.Update{put(from(""), ""), put(from("\x80"), "")}, 2, 2},
		"two, deep":         {[]api.Update{put(from(""), ""), put(twin(from("")), "")}, 2, 2},
		"many":              {some(2, 200, ""), gather.Enough, 2*gather.Enough - 1},
		"many, deep":        {some(3, 200, "all begin with this text"), gather.Enough, 2*gather.Enough - 1},
		"more than a batch": {some(4, 2000, ""), gather.Enough, 2*gather.Enough - 1},
	} {
		_, top := planted(run.entries)
		list := parts(top)
		if len(list) < run.least || len(list) > run.most {
			t.Errorf("%s: %d parts, want %d to %d", what, len(list), run.least, run.most)
		}
		for _, often := range count(list) {
			if often != 1 {
				t.Errorf("%s: two parts have a cell in common", what)
			}
		}
	}
}

// TestPartsOfOneWay: what is but one way is one part, from the whole tree on.
func TestPartsOfOneWay(t *testing.T) {
	trees := New(32, 100000)
	list := some(2, 200, "")
	grown(t, trees, api.OK, list...)
	top := trees.grow(trees.tops[1], 0, []api.Update{put(list[9].Index, "x")})
	if got := parts(top); len(got) != 1 || got[0] != top {
		t.Errorf("%d parts", len(got))
	}
	if got := parts(trees.tops[1]); len(got) != 0 {
		t.Errorf("%d parts of a tree that is worked out", len(got))
	}
}

// TestWorkParts: all that is in the parts is worked out, and nothing above them.
func TestWorkParts(t *testing.T) {
	trees, top := planted(some(4, 200, ""))
	list := parts(top)
	inside := count(list)
	trees.workParts(list)
	cells := map[*cell]int{}
	leaning(top, cells)
	for c := range cells {
		if isFresh(c) == (inside[c] > 0) {
			t.Fatalf("a cell has the digest %x, and is in %d parts", c.digest, inside[c])
		}
	}
	if len(cells) == len(inside) {
		t.Errorf("nothing is above the parts")
	}
	trees.workParts(nil)
}

func TestWorkOut(t *testing.T) {
	for _, list := range [][]api.Update{nil, some(1, 1, ""), some(2, 2, ""), some(3, 9, "deep down"), some(4, 200, ""), some(5, 2000, "")} {
		trees, top := planted(list)
		_, alone := planted(list)
		trees.workOut(top)
		want, _ := trees.workUnder(alone, nil)
		if got := trees.known(top); got != want {
			t.Errorf("%d entries: the root is %x, want %x", len(list), got, want)
		}
		cells := map[*cell]int{}
		leaning(top, cells)
		for c := range cells {
			if c.digest != slow(trees.width, c) {
				t.Fatalf("%d entries: a cell has the digest %x, want %x", len(list), c.digest, slow(trees.width, c))
			}
		}
	}
}
