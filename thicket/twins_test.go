package thicket_test

import (
	"fmt"
	"math"
	"math/rand"
	"slices"
	"strings"
	"testing"

	"thicket/api"
	"thicket/thicket"
)

// step is a call that may change a directory: Apply, or Prune.
type step struct {
	want  api.Errno
	batch []api.Update
	prune bool
	epoch int
}

func applies(want api.Errno, batch ...api.Update) step { return step{want: want, batch: batch} }
func prunes(want api.Errno, epoch int) step            { return step{want: want, prune: true, epoch: epoch} }

func (s step) run(d *thicket.Directory) (int, api.Errno) {
	if s.prune {
		return 0, d.Prune(s.epoch)
	}
	return d.Apply(s.batch)
}

// toldOf is all answers of an epoch, as one text.
func toldOf(d *thicket.Directory, epoch int, indexes []string) string {
	var out strings.Builder
	root, e := d.Root(epoch)
	head, f := d.Head(epoch)
	entries, g := d.Entries(epoch)
	fmt.Fprintf(&out, "root %q %d head %q %d entries %s %d nil %v", root, e, head, f, shown(entries), g, entries == nil)
	for _, index := range indexes {
		text, e := d.Prove(epoch, index)
		fmt.Fprintf(&out, " proof of %q %q %d", index, text, e)
	}
	return out.String()
}

// told is all answers, by what was asked.
func told(d *thicket.Directory, indexes []string) map[string]string {
	first, last := d.Kept()
	out := map[string]string{"Kept": fmt.Sprint(first, last), "Cells": fmt.Sprint(d.Cells())}
	for epoch := first - 2; epoch <= last+2; epoch++ {
		out[fmt.Sprint("epoch ", epoch)] = toldOf(d, epoch, indexes)
	}
	for _, epoch := range []int{math.MinInt, math.MaxInt} {
		out[fmt.Sprint("epoch ", epoch)] = toldOf(d, epoch, indexes)
	}
	return out
}

// twins is two directories, one of each engine, that are told to do the same.
type twins struct {
	t       *testing.T
	dirs    [2]*thicket.Directory
	indexes []string // of which proofs are asked, also some that may not be
	before  map[string]string
}

func newTwins(t *testing.T, c api.Config, indexes []string) *twins {
	t.Helper()
	w := &twins{t: t, indexes: append([]string{"", "short", strings.Repeat("x", 33)}, indexes...)}
	for engine := range w.dirs {
		c.Engine = engine
		d, e := thicket.New(c)
		if d == nil || e != api.OK {
			t.Fatalf("P6: New(%+v) = %v, %d", c, d, e)
		}
		w.dirs[engine] = d
	}
	w.before = w.same()
	return w
}

// same is what both tell: the same.
func (w *twins) same() map[string]string {
	w.t.Helper()
	one, two := told(w.dirs[0], w.indexes), told(w.dirs[1], w.indexes)
	if len(one) != len(two) {
		w.t.Fatalf("P11: %d answers and %d", len(one), len(two))
	}
	for asked, answer := range one {
		if two[asked] != answer {
			w.t.Fatalf("P11: %s: engine 0 says\n%s\nengine 1 says\n%s", asked, answer, two[asked])
		}
	}
	return one
}

// run has both take a step, and looks at all answers then.
func (w *twins) run(s step) api.Errno {
	w.t.Helper()
	n, e := s.run(w.dirs[0])
	m, f := s.run(w.dirs[1])
	if n != m || e != f {
		w.t.Fatalf("P11: engine 0 says %d, %d, engine 1 %d, %d", n, e, m, f)
	}
	after := w.same()
	first, last := w.dirs[0].Kept()
	for asked, answer := range w.before {
		var epoch int
		_, err := fmt.Sscanf(asked, "epoch %d", &epoch)
		isEpoch := err == nil && first <= epoch && epoch <= last && !(e == api.OK && !s.prune && epoch == last)
		if (e != api.OK || isEpoch) && after[asked] != answer {
			w.t.Fatalf("P1, P11: %s: before the answer %d\n%s\nbehind it\n%s", asked, e, answer, after[asked])
		}
	}
	w.before = after
	return e
}

// filling is steps that put entries there, 200 at a time.
func filling(list []api.Update) []step {
	var out []step
	for batch := range slices.Chunk(list, 200) {
		out = append(out, applies(api.OK, batch...))
	}
	return out
}

// TestTwinsAtTheEdges: scripts about the edges that the document names (P6 to P11).
func TestTwinsAtTheEdges(t *testing.T) {
	a, b, c := from(""), from("\x80"), from("\x40")
	deep := flip(a, 255)
	long := strings.Repeat("v", 100)
	list := some(3, 2001)
	none := []api.Update(nil)
	for what, script := range map[string]struct {
		config api.Config
		steps  []step
	}{
		"the last one counts": {config(32, 5, 100), []step{
			applies(0, put(a, "1"), gone(a), put(b, "1"), put(a, "2"), gone(b)),
			applies(0, gone(a), put(a, "2"), put(b, ""), gone(b), put(b, "3")),
		}},
		"nothing changes": {config(32, 5, 3), []step{
			applies(0, none...), applies(0, gone(a)), applies(0, put(a, "a"), put(b, "b")),
			applies(0, none...), applies(0, put(a, "a")), applies(0, put(b, "x"), put(b, "b"), gone(c)), applies(0, put(c, "c"), gone(c)),
		}},
		"the last bit": {config(32, 50, 258+257), []step{
			applies(0, put(a, "a")), applies(0, put(deep, "b")), applies(0, put(a, "c")),
			applies(api.ErrFull, put(a, "d")), applies(0, gone(deep)), prunes(0, 4), applies(0, put(deep, "b")),
		}},
		"all of one": {config(1, 1, 1), []step{
			applies(0, put(a, long)), applies(api.ErrFull, put(b, "b")), applies(api.ErrFull, put(a, "")), applies(0, gone(a)), applies(0, put(b, "b")),
		}},
		"all at the most": {config(32, 50, 100000), slices.Concat(filling(list[:60]), slices.Repeat([]step{applies(0, put(a, long)), applies(0, gone(a))}, 27))},
		"entries": {config(2, 1, 100000), append(filling(list[:2000]),
			applies(api.ErrLong, list[2000]), applies(api.ErrLong, list[2000], gone(a)), applies(0, list[2000], gone(list[0].Index)), applies(api.ErrLong, list[0]))},
		"updates": {config(32, 2, 3), []step{
			applies(0, slices.Repeat([]api.Update{put(a, "a")}, 200)...), applies(api.ErrLong, slices.Repeat([]api.Update{put(b, "a")}, 201)...),
		}},
		"cells in common": {config(32, 9, 11), []step{
			applies(0, put(a, "a"), put(b, "b"), put(c, "c")), applies(0, gone(c)), applies(0, put(c, "c")), applies(0, put(b, "x")),
			applies(api.ErrFull, put(b, "b")), prunes(0, 3), applies(0, put(b, "b")), applies(0, gone(a), gone(b)),
		}},
		"forgotten": {config(4, 3, 100), []step{
			applies(0, put(a, "a")), applies(0, put(b, "b")), applies(0, put(c, "c")), applies(0, gone(a)), prunes(api.ErrEpoch, 1),
			prunes(0, 2), prunes(0, 3), prunes(api.ErrEpoch, 2), prunes(api.ErrEpoch, 5), prunes(0, 4), prunes(0, 4), applies(0, none...),
			prunes(api.ErrEpoch, -1), prunes(api.ErrEpoch, math.MaxInt), prunes(api.ErrEpoch, math.MinInt),
		}},
		"errors in their order": {config(32, 2, 3), []step{
			applies(0, put(a, "a"), put(b, long)),
			applies(api.ErrBatch, put(a[1:], "")), applies(api.ErrBatch, put(a+"x", "")), applies(api.ErrBatch, put(a, long+"v")),
			applies(api.ErrBatch, api.Update{Index: a, Value: "v", Gone: true}), applies(api.ErrBatch, gone("")),
			applies(api.ErrBatch, append(list[:201:201], gone(""))...), applies(api.ErrBatch, put("", ""), put(c, "c")),
			applies(api.ErrLong, list[:201]...), applies(api.ErrFull, list[:200]...), applies(api.ErrFull, put(c, "c")),
			applies(0, gone(b)),
		}},
	} {
		t.Run(what, func(t *testing.T) {
			w := newTwins(t, script.config, []string{a, b, c, deep, list[0].Index})
			for at, s := range script.steps {
				if e := w.run(s); e != s.want {
					t.Fatalf("step %d says %d, want %d", at, e, s.want)
				}
			}
		})
	}
}

// TestTwinsAtRandom: scripts of any calls (P11).
func TestTwinsAtRandom(t *testing.T) {
	r := rand.New(rand.NewSource(6))
	for range 40 {
		indexes := pool(r, 2+r.Intn(30))
		c := config(1+r.Intn(32), 1+r.Intn(9), 1+r.Intn([]int{20, 600, 6000}[r.Intn(3)]))
		w := newTwins(t, c, append(picked(r, 4, indexes), pool(r, 2)...))
		for range 20 {
			s := applies(0, randomBatch(r, indexes)...)
			if r.Intn(6) == 0 {
				_, last := w.dirs[0].Kept()
				s = prunes(0, last-r.Intn(c.Window+1))
			}
			w.run(s)
		}
	}
}
