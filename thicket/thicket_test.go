package thicket_test

import (
	"math"
	"math/rand"
	"runtime"
	"slices"
	"strconv"
	"strings"
	"testing"
	"time"
	"unsafe"

	"thicket/api"
	"thicket/proof"
	"thicket/thicket"
)

// from is the index that begins with some bytes and goes on with zeros.
func from(start string) string { return start + strings.Repeat("\x00", 32-len(start)) }

func put(index, value string) api.Update { return api.Update{Index: index, Value: value} }
func gone(index string) api.Update       { return api.Update{Index: index, Gone: true} }

// config is one of any engine.
func config(width, window, cells int) api.Config {
	return api.Config{Width: width, Window: window, Cells: cells}
}

// some is so many entries, no index twice.
func some(seed int64, count int) []api.Update {
	r := rand.New(rand.NewSource(seed))
	var out []api.Update
	for range count {
		b := make([]byte, 32)
		r.Read(b)
		out = append(out, put(string(b), string(b[:5])))
	}
	return out
}

// number is the first that is as asked, as a text.
func number(asked func(string) bool) string {
	n := 0
	for !asked(strconv.Itoa(n)) {
		n++
	}
	return strconv.Itoa(n)
}

// must has a batch applied.
func (p *trio) must(batch ...api.Update) {
	p.t.Helper()
	if e := p.apply(batch...); e != api.OK {
		p.t.Fatalf("P7: Apply(%d updates) = %d, want none", len(batch), e)
	}
}

// refuses has a batch refused, and looks that all answers are as before.
func (p *trio) refuses(want api.Errno, batch ...api.Update) {
	p.t.Helper()
	for range 2 {
		if e := p.apply(batch...); e != want {
			p.t.Fatalf("P7: Apply(%d updates) = %d, want %d", len(batch), e, want)
		}
		p.agree(from(""), from("\x80"), from("\x40"))
	}
}

func TestNewTakesTheBounds(t *testing.T) {
	for _, c := range []api.Config{config(1, 1, 1), config(32, 50, 100000), config(1, 50, 1), config(32, 1, 100000)} {
		p := newTrio(t, c)
		p.agree(from(""), from("\xff"))
		p.cells("nothing stands there", 0)
		for _, epoch := range []int{1, -1, 2, 50, math.MaxInt, math.MinInt} {
			p.notKept(epoch)
		}
	}
}

func TestNewRefuses(t *testing.T) {
	refuses := func(c api.Config) {
		t.Helper()
		if d, e := thicket.New(c); d != nil || e != api.ErrArg {
			t.Errorf("P6: New(%+v) = %v, %d, want ErrArg", c, d, e)
		}
	}
	configs := []api.Config{{}, config(33, 1, 1), config(1, 51, 1), config(1, 1, 100001), config(33, 51, 100001)}
	for _, wrong := range []int{math.MinInt, -1, 0, math.MaxInt} {
		configs = append(configs, config(wrong, 1, 1), config(1, wrong, 1), config(1, 1, wrong), config(wrong, wrong, wrong))
	}
	for _, c := range configs {
		for _, c.Engine = range []int{api.Growing, api.Again} {
			refuses(c)
		}
	}
	for _, engine := range []int{math.MinInt, -1, 2, 3, 256, 1 << 32, 1<<32 + 1, math.MaxInt} {
		refuses(api.Config{Engine: engine, Width: 1, Window: 1, Cells: 1})
		refuses(api.Config{Engine: engine, Width: 32, Window: 50, Cells: 100000})
	}
}

// TestExamples: what the document's last section says.
func TestExamples(t *testing.T) {
	p := newTrio(t, config(2, 1, 10))
	for engine, d := range p.dirs {
		if root, _ := d.Root(0); root != "\x6e\x34" {
			t.Errorf("P9: engine %d: the empty directory's root = %x", engine, root)
		}
	}
	p.proves(0, from("any"), "\x00\x00\x00")
	a, b := from(""), from("\x80")
	p.must(put(a, "a"), put(b, "b"))
	p.cells("a node of two leaves", 3)
	leafA := h(2, "\x01", a, h(2, "\x04", "a"))
	leafB := h(2, "\x01", b, h(2, "\x04", "b"))
	for index, want := range map[string]string{
		a:            "\x01\x00\x01\x80" + leafB + "a",
		b:            "\x01\x00\x01\x80" + leafA + "b",
		from("\x40"): "\x02\x00\x01\x80" + leafB + a + h(2, "\x04", "a"),
	} {
		p.proves(1, index, want)
	}
}

// TestLastUpdateCounts: of each index the value that is told last of it (P7).
func TestLastUpdateCounts(t *testing.T) {
	a, b, c := from(""), from("\x80"), from("\x40")
	p := newTrio(t, config(32, 5, 100))
	p.must(put(a, "1"), put(b, "1"), put(a, "2"), gone(b), gone(c), put(c, ""))
	for engine, d := range p.dirs {
		entries, _ := d.Entries(1)
		if want := []api.Update{put(a, "2"), put(c, "")}; !slices.Equal(entries, want) {
			t.Errorf("P7: engine %d: %s, want %s", engine, shown(entries), shown(want))
		}
	}
	p.must(gone(a), put(a, "2"), put(c, "x"), put(c, ""))
	p.agree(a, b, c)
	p.cells("all as it was", 4)
}

// TestCellsInCommon: how many cells there are behind some batches, none of whose
// epochs is forgotten (P8).
func TestCellsInCommon(t *testing.T) {
	a, b, c, d := from(""), from("\x80"), from("\x40"), from("\xc0")
	all := []api.Update{put(a, "a"), put(b, "b"), put(c, "c"), put(d, "d")}
	for _, run := range []struct {
		what    string
		cells   int
		batches [][]api.Update
	}{
		{"an empty batch", 7, [][]api.Update{all, {}, {}}},
		{"nothing changes", 7, [][]api.Update{all, all, {put(c, "x"), put(c, "c"), gone(from("\x01"))}}},
		{"a leaf goes down", 6, [][]api.Update{{put(a, "a")}, {put(c, "c")}, {put(b, "b")}}},
		{"a leaf goes up", 6, [][]api.Update{all[:3], {gone(c)}, {gone(b)}}},
		{"a leaf goes up far", 258, [][]api.Update{{put(a, "a"), put(flip(a, 255), "b")}, {gone(a)}}},
		{"the other half stays", 13, [][]api.Update{all, {put(a, "x")}, {put(a, "y")}}},
		{"gone and there again", 11, [][]api.Update{all, {gone(c)}, {put(c, "c")}}},
		{"changed and back again", 13, [][]api.Update{all, {put(c, "x")}, {put(c, "c")}}},
		{"all gone and there again", 14, [][]api.Update{all, {gone(a), gone(b), gone(c), gone(d)}, all}},
		{"a node in between", 7, [][]api.Update{{put(a, "a"), put(c, "c")}, {put(b, "b")}, {gone(b)}}},
		{"one gives way to one beside it", 5, [][]api.Update{all[:2], {gone(a), put(c, "a")}}},
		{"values change places", 6, [][]api.Update{all[:2], {put(a, "b"), put(b, "a")}}},
		{"one gives way at its place", 3, [][]api.Update{{put(a, "a")}, {gone(a), put(c, "a")}, {gone(c), put(a, "a")}}},
	} {
		p := newTrio(t, config(1, 5, 1000))
		for _, batch := range run.batches {
			p.must(batch...)
			p.agree(a, b, c, d, flip(a, 255))
		}
		p.cells(run.what, run.cells)
	}
}

func TestCellsInCommonCounted(t *testing.T) {
	a, b, c := from(""), from("\x80"), from("\x40")
	p := newTrio(t, config(32, 9, 1000))
	for _, step := range []struct {
		what  string
		cells int
		batch []api.Update
	}{
		{"one leaf", 1, []api.Update{put(a, "a")}},
		{"a leaf and a node more", 3, []api.Update{put(b, "b")}},
		{"a leaf and two nodes more", 6, []api.Update{put(c, "c")}},
		{"a node more: the leaves stay", 7, []api.Update{gone(c)}},
		{"gone between: another leaf, two nodes", 10, []api.Update{put(c, "c")}},
		{"nothing", 10, nil},
		{"a leaf and a node: the node of the others stays", 12, []api.Update{put(b, "x")}},
		{"nothing is left", 12, []api.Update{gone(a), gone(b), gone(c)}},
	} {
		p.must(step.batch...)
		p.cells(step.what, step.cells)
	}
	for _, step := range [][2]int{{0, 12}, {1, 12}, {2, 12}, {3, 11}, {4, 8}, {5, 7}, {6, 7}, {7, 5}, {8, 0}} {
		if e := p.prune(step[0]); e != api.OK {
			t.Fatalf("P8: Prune(%d) = %d", step[0], e)
		}
		p.cells("pruned", step[1])
		p.agree(a, b, c)
	}
}

// TestLastBit: two indexes that part at the last bit make as many cells as an
// update can (P11).
func TestLastBit(t *testing.T) {
	for _, one := range []string{from(""), strings.Repeat("\xff", 32), strings.Repeat("\xa5\x5a", 16)} {
		two := flip(one, 255)
		p := newTrio(t, config(32, 50, 100000))
		p.must(put(one, "1"))
		p.must(put(two, "2"))
		p.cells("256 nodes and two leaves", 258)
		p.must(put(one, "3"))
		p.cells("257 more", 258+257)
		p.must(gone(one))
		p.cells("the other leaf goes up", 258+257)
		p.agree(one, two, flip(one, 0), flip(one, 254), flip(two, 254), flip(one, 128))
	}
}

// TestManyNewCells: 200 updates make at most 257 cells each (P11); these make all
// but those few nodes that they have in common.
func TestManyNewCells(t *testing.T) {
	var twins, others []api.Update
	for _, u := range some(5, 200) {
		twins = append(twins, put(flip(u.Index, 255), "twin"))
		others = append(others, put(flip(u.Index, 255), "other"))
	}
	p := newTrio(t, config(8, 2, 100000))
	p.must(some(5, 200)...)
	before := p.dirs[0].Cells()
	p.must(twins...)
	for engine, d := range p.dirs {
		if more := d.Cells() - before; more > 200*257 || more < 200*240 {
			t.Errorf("P11: engine %d: 200 updates make %d cells", engine, more)
		}
	}
	// Beside both epochs there is no room for as many again.
	p.refuses(api.ErrFull, others...)
}

func TestBatchesThatMayNotBe(t *testing.T) {
	a, b := from(""), from("\x80")
	p := newTrio(t, config(32, 3, 3))
	wrongs := []api.Update{
		put("", ""), put(a[1:], "v"), put(a+"\x00", "v"), gone(""), gone(a[1:]), gone(a + "\x00"),
		put(a, strings.Repeat("v", 101)), put(a, strings.Repeat("v", 100000)),
		{Index: a, Value: "v", Gone: true}, {Index: from("\x11"), Value: strings.Repeat("v", 101), Gone: true},
	}
	for range 3 {
		for _, wrong := range wrongs {
			p.refuses(api.ErrBatch, wrong)
			p.refuses(api.ErrBatch, put(b, "b"), wrong, put(a, "a"))
			// Also if a later update makes up for it, if there are too many, and if
			// there is no room.
			p.refuses(api.ErrBatch, wrong, put(a, "a"), gone(from("\x11")))
			p.refuses(api.ErrBatch, append(slices.Repeat([]api.Update{put(a, "a")}, 300), wrong)...)
			p.refuses(api.ErrBatch, append(some(1, 20), wrong)...)
		}
		p.must(put(a, strings.Repeat("v", 100)))
	}
}

func TestTooManyUpdates(t *testing.T) {
	a, b := from(""), from("\x80")
	p := newTrio(t, config(32, 3, 3))
	p.refuses(api.ErrLong, slices.Repeat([]api.Update{put(a, "a")}, 201)...)
	p.refuses(api.ErrLong, slices.Repeat([]api.Update{gone(a)}, 201)...)
	p.refuses(api.ErrLong, some(2, 1000)...) // there is no room for them either
	p.must(slices.Repeat([]api.Update{put(a, "a"), put(b, "b")}, 100)...)
	p.refuses(api.ErrFull, some(2, 200)...)
	p.agree(a, b)
}

func TestTooManyEntries(t *testing.T) {
	list := some(3, 2001)
	p := newTrio(t, config(16, 1, 100000))
	for at := 0; at < 1800; at += 200 {
		p.must(list[at : at+200]...)
	}
	p.refuses(api.ErrLong, append(list[1801:2001:2001], list[1800])...) // 201 updates
	p.must(list[1800:1999]...)
	p.refuses(api.ErrLong, list[1999], list[2000])
	p.must(list[1999])
	p.refuses(api.ErrLong, list[2000])
	p.refuses(api.ErrLong, list[2000], gone(list[1].Index), list[1])
	// What is gone in the end, or was there, is not one more.
	p.must(list[2000], put(list[1].Index, "x"), gone(list[2000].Index))
	p.must(list[2000], gone(list[1].Index))
	p.refuses(api.ErrLong, list[1])
	p.must(gone(list[2].Index), gone(list[2].Index))
	p.must(list[1])
	p.refuses(api.ErrLong, list[2])
	for engine, d := range p.dirs {
		if entries, _ := d.Entries(p.model.last().number); len(entries) != 2000 {
			t.Errorf("P9: engine %d: %d entries", engine, len(entries))
		}
	}
	p.agree(list[0].Index, list[1].Index, list[2].Index, list[2000].Index)
}

// TestTooLongAheadOfFull: 2000 entries, and room for not one cell more.
func TestTooLongAheadOfFull(t *testing.T) {
	list := some(3, 2001)
	filled := func(cells int) *trio {
		p := newTrio(t, config(16, 50, cells))
		for at := 0; at < 2000; at += 200 {
			p.must(list[at : at+200]...)
		}
		return p
	}
	p := filled(filled(100000).dirs[0].Cells())
	p.refuses(api.ErrFull, put(list[0].Index, "x"))
	p.refuses(api.ErrLong, list[2000])
	p.refuses(api.ErrLong, slices.Repeat([]api.Update{put(list[0].Index, "x")}, 201)...)
	p.refuses(api.ErrBatch, list[2000], gone("x"))
}

// TestFull: the cells are counted with the new epoch beside all that are kept, also
// the one that would be forgotten then (P7).
func TestFull(t *testing.T) {
	a, b, c := from(""), from("\x80"), from("\x40")
	p := newTrio(t, config(32, 1, 3))
	p.must(put(a, "a"))
	p.must(put(b, "b"))
	p.cells("the first epoch is forgotten", 3)
	p.refuses(api.ErrFull, put(c, "c"))
	p.refuses(api.ErrFull, put(a, "x"))
	p.refuses(api.ErrFull, gone(a), gone(b), put(c, "c"))
	p.must(gone(a))
	p.cells("one is left", 1)
	p.must(gone(b), put(c, "c"))
	p.must(put(a, "a"), gone(c))
	p.must(gone(a))
	p.cells("none is left", 0)
	p.must(put(a, "a"), put(b, "b"))
	p.refuses(api.ErrFull, put(b, "x"))
}

// TestFullTillPruned: what Prune forgets makes room.
func TestFullTillPruned(t *testing.T) {
	a, b := from(""), flip(from(""), 255)
	p := newTrio(t, config(32, 50, 258+257))
	p.must(put(a, "a"))
	p.must(put(b, "b"))
	p.must(put(b, "c"))
	p.refuses(api.ErrFull, put(b, "d"))
	p.refuses(api.ErrFull, put(from("\x80"), ""))
	p.must(gone(a))
	p.refuses(api.ErrFull, put(a, "a"))
	p.prune(3)
	p.must()
	p.cells("two leaves, and 256 nodes", 258)
	p.must(put(a, "a"))
	p.cells("a leaf, and 256 nodes more", 258+257)
	p.agree(a, b)
}

func TestWindowForgets(t *testing.T) {
	for _, window := range []int{1, 2, 3, 50} {
		p := newTrio(t, config(4, window, 1000))
		list := some(int64(window), window+10)
		for i, u := range list {
			p.must(u, gone(list[max(0, i-3)].Index))
			p.agree(list[0].Index, u.Index)
		}
		for engine, d := range p.dirs {
			if first, last := d.Kept(); first != 11 || last != window+10 {
				t.Errorf("P8: engine %d: Kept() = %d, %d with the window %d", engine, first, last, window)
			}
		}
		for epoch := -1; epoch < 11; epoch++ {
			p.notKept(epoch)
		}
		p.notKept(window + 11)
	}
}

func TestPrune(t *testing.T) {
	p := newTrio(t, config(32, 10, 1000))
	list := some(9, 30)
	for _, u := range list[:10] {
		p.must(u)
	}
	for _, epoch := range []int{math.MinInt, -1, 0, 11, math.MaxInt} {
		if e := p.prune(epoch); e != api.ErrEpoch {
			t.Errorf("P8: Prune(%d) = %d", epoch, e)
		}
		p.agree(list[0].Index)
	}
	for _, epoch := range []int{1, 4, 4, 10, 10} {
		if e := p.prune(epoch); e != api.OK {
			t.Errorf("P8: Prune(%d) = %d", epoch, e)
		}
		p.agree(list[0].Index, list[9].Index)
		p.notKept(epoch - 1)
	}
	// The window begins anew from there, and heads go on.
	for _, u := range list[10:] {
		p.must(u)
		p.agree(u.Index)
	}
}

func TestProveRefuses(t *testing.T) {
	p := newTrio(t, config(32, 10, 1000))
	p.must(put(from(""), "v"))
	for epoch := range 2 {
		for _, index := range []string{"", "x", from("")[1:], from("") + "\x00", strings.Repeat("x", 1000)} {
			for engine, d := range p.dirs {
				if text, e := d.Prove(epoch, index); text != "" || e != api.ErrArg {
					t.Errorf("P10: engine %d: Prove(%d) of %d bytes = %x, %d", engine, epoch, len(index), text, e)
				}
				if text, e := d.Prove(2, index); text != "" || e != api.ErrEpoch {
					t.Errorf("P10: engine %d: Prove(2) of %d bytes = %x, %d", engine, len(index), text, e)
				}
			}
		}
	}
}

// TestSiblingLikeEmpty: by chance the digest of a leaf is that of the empty tree;
// then the proof does not tell it (P10), and Verify takes it (P11).
func TestSiblingLikeEmpty(t *testing.T) {
	a, b := from(""), from("\x80")
	value := number(func(s string) bool { return h(1, "\x01", b, h(1, "\x04", s)) == h(1, "\x00") })
	p := newTrio(t, config(1, 3, 100))
	p.must(put(a, "a"), put(b, value))
	p.proves(1, a, "\x01\x00\x01\x00a")
	p.agree(a, b, from("\x40"), from("\xc0"))
}

// TestDigestsAreNotEntries: values of which the digests clash make other cells, and
// stand there as they are.
func TestDigestsAreNotEntries(t *testing.T) {
	a, b := from(""), from("\x80")
	one := ""
	two := number(func(s string) bool { return h(1, "\x04", s) == h(1, "\x04", one) })
	p := newTrio(t, config(1, 3, 100))
	p.must(put(a, one), put(b, "b"))
	p.must(put(a, two))
	p.cells("a leaf and a node more", 5)
	p.agree(a, b)
	for engine, d := range p.dirs {
		first, _ := d.Root(1)
		second, _ := d.Root(2)
		text, _ := d.Prove(1, a)
		other, _ := d.Prove(2, a)
		x, y, e := proof.Clash(first, a, text, other)
		if first != second || e != api.OK || x != "\x04"+one || y != "\x04"+two {
			t.Errorf("P5: engine %d: Clash = %x, %x, %d", engine, x, y, e)
		}
	}
}

// TestNothingIsKept: what was handed in may be written over (P2).
func TestNothingIsKept(t *testing.T) {
	p := newTrio(t, config(32, 3, 100))
	text := func(b []byte) string { return unsafe.String(&b[0], len(b)) }
	for engine, d := range p.dirs {
		index, value := []byte(from("\x12")), []byte("a value")
		spare := append(make([]api.Update, 0, 4), put(text(index), text(value)), put("spare", ""), put("room", ""))
		if n, e := d.Apply(spare[:1]); n != 1 || e != api.OK {
			t.Fatalf("P7: engine %d: Apply = %d, %d", engine, n, e)
		}
		if spare[1].Index != "spare" || spare[2].Index != "room" {
			t.Errorf("P2: engine %d: Apply wrote into the spare room: %s", engine, shown(spare))
		}
		spare[0] = put("changed", "by its owner")
		copy(index, "written over")
		copy(value, "written over")
		other, _ := d.Prove(1, text(index))
		copy(index, "and once more")
		if again, _ := d.Prove(1, from("\x12")); again == other {
			t.Errorf("P10: engine %d: two indexes, one proof: %x", engine, again)
		}
	}
	p.model.apply([]api.Update{put(from("\x12"), "a value")})
	p.agree(from("\x12"))
	p.must(put(from("\x13"), ""))
	p.agree(from("\x12"), from("\x13"))
}

// TestListsAreTheCallers: what comes out may be written over, its spare room too (P2).
func TestListsAreTheCallers(t *testing.T) {
	p := newTrio(t, config(32, 3, 1000))
	p.must(some(4, 5)...)
	p.must(some(5, 6)...)
	for engine, d := range p.dirs {
		one, _ := d.Entries(2)
		two, _ := d.Entries(2)
		other, _ := d.Entries(1)
		for _, list := range [][]api.Update{one, other} {
			list = list[:cap(list)]
			for i := range list {
				list[i] = put("mine", "")
			}
		}
		if !slices.Equal(two, p.model.last().state.list()) {
			t.Errorf("P2: engine %d: one list wrote into another: %s", engine, shown(two))
		}
	}
	p.agree()
	p.must(some(6, 3)...)
	p.agree()
}

// TestDirectoriesAreApart: what one does touches no other (P2).
func TestDirectoriesAreApart(t *testing.T) {
	pairs := []*trio{newTrio(t, config(32, 3, 1000)), newTrio(t, config(32, 3, 1000)), newTrio(t, config(1, 1, 40))}
	r := rand.New(rand.NewSource(8))
	indexes := pool(r, 5)
	for range 60 {
		p := pairs[r.Intn(3)]
		if r.Intn(5) == 0 {
			p.prune(p.model.last().number - r.Intn(2))
		} else {
			p.apply(randomBatch(r, indexes)...)
		}
		for _, p := range pairs {
			p.agree(indexes...)
		}
	}
}

// TestNoGoroutineIsLeft when a call answers (P1).
func TestNoGoroutineIsLeft(t *testing.T) {
	before := runtime.NumGoroutine()
	p := newTrio(t, config(32, 2, 3000))
	for _, d := range p.dirs {
		for at := range 40 {
			d.Apply(some(int64(at), 200)) // taken or refused
			d.Apply(nil)
			d.Apply([]api.Update{gone("x")})
			_, last := d.Kept()
			d.Root(last)
			d.Prove(last, from(""))
			d.Prove(last, "")
			d.Prune(last)
		}
	}
	// One that has sent its last may take a moment to be taken off the count.
	for range 100 {
		if runtime.NumGoroutine() <= before {
			return
		}
		time.Sleep(10 * time.Millisecond)
	}
	t.Errorf("P1: %d goroutines, %d before", runtime.NumGoroutine(), before)
}
