package again

import (
	"crypto/sha256"
	"math/rand"
	"slices"
	"strings"
	"testing"

	"thicket/api"
	"thicket/gather"
)

// from is the index that begins with some bytes and goes on with zeros.
func from(start string) string { return start + strings.Repeat("\x00", 32-len(start)) }

// twin is the index that parts from another one at the last bit.
func twin(index string) string { return index[:31] + string([]byte{index[31] ^ 1}) }

func put(index, value string) api.Update { return api.Update{Index: index, Value: value} }

func byIndex(a, b api.Update) int { return strings.Compare(a.Index, b.Index) }

// some is a state of random indexes that begin with some bytes.
func some(seed int64, count int, start string) []api.Update {
	r := rand.New(rand.NewSource(seed))
	var out []api.Update
	for range count {
		b := make([]byte, 32)
		r.Read(b)
		copy(b, start)
		out = append(out, put(string(b), string(b[30:])))
	}
	slices.SortFunc(out, byIndex)
	return out
}

// twinned is a state and the twins of all that is in it.
func twinned(state []api.Update) []api.Update {
	out := slices.Clone(state)
	for _, u := range state {
		out = append(out, put(twin(u.Index), "twin"))
	}
	slices.SortFunc(out, byIndex)
	return out
}

func states() [][]api.Update {
	return [][]api.Update{
		nil,
		{put(from(""), "a")},
		{put(from(""), "b")},
		{put(from("\x80"), "a")},
		{put(from(""), "a"), put(from("\x80"), "b")},
		{put(from(""), "a"), put(twin(from("")), "b")},
		{put(from(""), ""), put(twin(from("")), ""), put(from("\xff"), "")},
		some(1, 3, ""),
		some(1, gather.Enough, ""),
		twinned(some(1, 9, "")),
		some(2, 200, ""),
		some(2, 150, "all begin with this text"),
		twinned(some(2, 100, "and these")),
		slices.Concat(some(3, 40, "\x00deep down"), some(4, 40, "\x80")),
		some(5, 2000, ""),
	}
}

// slow is the digest of entries at a depth, by the library.
func slow(width, depth int, entries []api.Update) string {
	h := func(parts ...string) string {
		sum := sha256.Sum256([]byte(strings.Join(parts, "")))
		return string(sum[:width])
	}
	switch len(entries) {
	case 0:
		return h("\x00")
	case 1:
		return h("\x01", entries[0].Index, h("\x04", entries[0].Value))
	}
	var halves [2][]api.Update
	for _, u := range entries {
		bit := u.Index[depth/8] >> (7 - depth%8) & 1
		halves[bit] = append(halves[bit], u)
	}
	return h("\x02", slow(width, depth+1, halves[0]), slow(width, depth+1, halves[1]))
}

func TestWorkOut(t *testing.T) {
	for _, width := range []int{1, 32} {
		trees := New(width, 1)
		var all []tree
		var want []string
		for at, state := range states() {
			all, want = append(all, whole(state)), append(want, slow(width, 0, state))
			if got := trees.workOut(all[at:]); !slices.Equal(got, want[at:]) {
				t.Errorf("state %d: %x, want %x", at, got, want[at:])
			}
		}
		if got := trees.workOut(all); !slices.Equal(got, want) {
			t.Errorf("all at once: %x, want %x", got, want)
		}
		if got := trees.workOut(nil); len(got) != 0 {
			t.Errorf("of nothing %x is worked out", got)
		}
	}
}

func TestHalves(t *testing.T) {
	for at, state := range states() {
		for c := whole(state); c.depth < 256; {
			zero, one := c.halves()
			if !slices.Equal(slices.Concat(zero.entries, one.entries), c.entries) {
				t.Fatalf("state %d: the halves at the depth %d are not the whole", at, c.depth)
			}
			for bit, half := range []tree{zero, one} {
				if half.depth != c.depth+1 {
					t.Fatalf("state %d: the depth is %d, want %d", at, half.depth, c.depth+1)
				}
				for _, u := range half.entries {
					if int(u.Index[c.depth/8]>>(7-c.depth%8)&1) != bit {
						t.Fatalf("state %d: the bit %d of %x is not %d", at, c.depth, u.Index, bit)
					}
				}
			}
			if c = zero; len(one.entries) > len(zero.entries) {
				c = one
			}
		}
	}
}

// names is the cells of a tree: two epochs that lie one behind the other have those in
// common that have one name.
func names(c tree, out map[string]int) {
	switch len(c.entries) {
	case 0:
		return
	case 1:
		out["leaf "+c.entries[0].Index+c.entries[0].Value]++
		return
	}
	name := "node " + string([]byte{byte(c.depth)})
	for _, u := range c.entries {
		name += u.Index + u.Value + ","
	}
	out[name]++
	zero, one := c.halves()
	names(zero, out)
	names(one, out)
}

func TestNewCells(t *testing.T) {
	list := states()
	list = list[:len(list)-1] // the names of the last one are long
	cells := make([]map[string]int, len(list))
	for at, state := range list {
		cells[at] = map[string]int{}
		names(whole(state), cells[at])
	}
	for i, ahead := range list {
		for j, next := range list {
			want := 0
			for name := range cells[j] {
				if cells[i][name] == 0 {
					want++
				}
			}
			if got := newCells(ahead, next); got != want {
				t.Errorf("from the state %d to %d: %d new cells, want %d", i, j, got, want)
			}
		}
	}
}

func TestDifference(t *testing.T) {
	for i, ahead := range states() {
		for j, next := range states() {
			list := difference(ahead, next)
			if i == j && len(list) > 0 || !slices.IsSortedFunc(list, byIndex) {
				t.Errorf("from the state %d to %d: %d changes, or not in order", i, j, len(list))
			}
			if got := changed(ahead, list); !slices.Equal(got, next) {
				t.Errorf("from the state %d to %d: the changes make another state", i, j)
			}
			for at, u := range list[:min(len(list), 10)] {
				if rest := slices.Delete(slices.Clone(list), at, at+1); slices.Equal(changed(ahead, rest), next) {
					t.Errorf("from the state %d to %d: %x has not changed", i, j, u.Index)
				}
			}
		}
	}
}

// TestStatesStay: a state is never written into, whatever comes behind it.
func TestStatesStay(t *testing.T) {
	trees := New(2, 100000)
	r := rand.New(rand.NewSource(4))
	list := some(6, 60, "")
	kept := [][]api.Update{nil}
	for range 300 {
		at := r.Intn(len(list))
		changes := slices.Clone(list[at:min(len(list), at+r.Intn(20))])
		for i := range changes {
			if changes[i].Value = "other"; r.Intn(2) == 0 {
				changes[i] = gone(changes[i])
			}
		}
		if e := trees.Next(changes); e != api.OK {
			t.Fatalf("Next = %d", e)
		}
		kept = append(kept, trees.Entries(len(kept)))
		count := r.Intn(min(4, len(kept)))
		trees.Forget(count)
		kept = kept[count:]
		if !slices.EqualFunc(trees.states, kept, slices.Equal) {
			t.Fatalf("the states are not as they were")
		}
	}
}

// TestRefused: what is refused leaves all as it was.
func TestRefused(t *testing.T) {
	trees := New(32, 300)
	list := some(1, 40, "")
	for _, run := range []struct {
		changes []api.Update
		want    api.Errno
	}{
		{list, api.OK},
		{[]api.Update{put(twin(list[0].Index), "too deep")}, api.ErrFull},
		{some(2, 150, ""), api.ErrFull},
		{some(2, 1961, ""), api.ErrLong},
	} {
		if e := trees.Next(run.changes); e != run.want {
			t.Errorf("Next(%d changes) = %d, want %d", len(run.changes), e, run.want)
		}
	}
	if len(trees.states) != 2 || !slices.Equal(trees.states[1], list) || trees.Cells() != newCells(nil, list) {
		t.Errorf("%d states, %d cells", len(trees.states), trees.Cells())
	}
}
