package thicket_test

import (
	"fmt"
	"math/rand"
	"slices"
	"strconv"
	"strings"
	"testing"

	"thicket/api"
	"thicket/proof"
	"thicket/thicket"
)

// trio is two directories, one of each engine, and the model of them.
type trio struct {
	t        *testing.T
	dirs     []*thicket.Directory // by the engine
	model    *model
	verified map[[4]string]bool // Verify says the same each time: it is asked once
}

// newTrio takes all but the engine of the configuration.
func newTrio(t *testing.T, c api.Config) *trio {
	t.Helper()
	p := &trio{t, nil, newModel(c), map[[4]string]bool{}}
	for _, c.Engine = range []int{api.Growing, api.Again} {
		d, e := thicket.New(c)
		if d == nil || e != api.OK {
			t.Fatalf("P6: New(%+v) = %v, %d", c, d, e)
		}
		p.dirs = append(p.dirs, d)
	}
	return p
}

// apply has all apply a batch, and tells what they say if they agree.
func (p *trio) apply(batch ...api.Update) api.Errno {
	p.t.Helper()
	before := slices.Clone(batch)
	want, f := p.model.apply(batch)
	for engine, d := range p.dirs {
		got, e := d.Apply(batch)
		if got != want || e != f {
			p.t.Fatalf("P7: engine %d: Apply(%d updates) = %d, %d, want %d, %d", engine, len(batch), got, e, want, f)
		}
		if !slices.Equal(batch, before) {
			p.t.Fatalf("P2: engine %d: Apply wrote into the batch", engine)
		}
	}
	return f
}

func (p *trio) prune(epoch int) api.Errno {
	p.t.Helper()
	f := p.model.prune(epoch)
	for engine, d := range p.dirs {
		if e := d.Prune(epoch); e != f {
			p.t.Fatalf("P8: engine %d: Prune(%d) = %d, want %d", engine, epoch, e, f)
		}
	}
	return f
}

// agree holds all that the directories tell against the model: of each epoch that is
// kept, and of those about them, the proofs of these indexes too.
func (p *trio) agree(indexes ...string) {
	p.t.Helper()
	first, last := p.model.kept[0].number, p.model.last().number
	for engine, d := range p.dirs {
		if a, b := d.Kept(); a != first || b != last {
			p.t.Fatalf("P8: engine %d: Kept() = %d, %d, want %d, %d", engine, a, b, first, last)
		}
	}
	p.cells("as the model", cellsOf(p.model.kept))
	for _, e := range p.model.kept {
		p.agreeOf(e)
		for _, index := range indexes {
			p.agreeOn(e, index)
		}
	}
	p.notKept(first - 1)
	p.notKept(last + 1)
}

func (p *trio) cells(what string, want int) {
	p.t.Helper()
	for engine, d := range p.dirs {
		if got := d.Cells(); got != want {
			p.t.Fatalf("P8: engine %d: %s: Cells() = %d, want %d", engine, what, got, want)
		}
	}
}

func (p *trio) agreeOf(e epoch) {
	p.t.Helper()
	for engine, d := range p.dirs {
		if got, errno := d.Root(e.number); got != e.plan.digest || errno != api.OK {
			p.t.Fatalf("P9: engine %d: Root(%d) = %x, %d, want %x", engine, e.number, got, errno, e.plan.digest)
		}
		if got, errno := d.Head(e.number); got != e.head || errno != api.OK {
			p.t.Fatalf("P9: engine %d: Head(%d) = %x, %d, want %x", engine, e.number, got, errno, e.head)
		}
		if got, errno := d.Entries(e.number); !slices.Equal(got, e.state.list()) || errno != api.OK {
			p.t.Fatalf("P9: engine %d: Entries(%d) = %s, %d, want %s", engine, e.number, shown(got), errno, shown(e.state.list()))
		}
	}
}

func (p *trio) agreeOn(e epoch, index string) {
	p.t.Helper()
	text := e.plan.prove(p.model.config.Width, index)
	p.proves(e.number, index, text)
	want := api.Verdict{Kind: api.Absent}
	if value, ok := e.state[index]; ok {
		want = api.Verdict{Kind: api.Present, Value: value}
	}
	told := [4]string{e.plan.digest, index, text, strconv.Itoa(want.Kind) + want.Value}
	if p.verified[told] {
		return
	}
	p.verified[told] = true
	if got, errno := proof.Verify(e.plan.digest, index, text); got != want || errno != api.OK {
		p.t.Fatalf("P11: Verify of %x in the epoch %d = %+v, %d, want %+v", index, e.number, got, errno, want)
	}
}

// proves looks that both give this proof.
func (p *trio) proves(epoch int, index, want string) {
	p.t.Helper()
	for engine, d := range p.dirs {
		if text, errno := d.Prove(epoch, index); text != want || errno != api.OK {
			p.t.Fatalf("P10: engine %d: Prove(%d, %x) = %x, %d, want %x", engine, epoch, index, text, errno, want)
		}
	}
}

func (p *trio) notKept(epoch int) {
	p.t.Helper()
	for engine, d := range p.dirs {
		root, e1 := d.Root(epoch)
		head, e2 := d.Head(epoch)
		entries, e3 := d.Entries(epoch)
		text, e4 := d.Prove(epoch, strings.Repeat("x", 32))
		short, e5 := d.Prove(epoch, "x")
		if root+head+text+short != "" || len(entries) > 0 {
			p.t.Fatalf("P1: engine %d: the epoch %d, which is not kept, has %x, %x, %d entries, %x, %x", engine, epoch, root, head, len(entries), text, short)
		}
		if got := []api.Errno{e1, e2, e3, e4, e5, d.Prune(epoch)}; !slices.Equal(got, slices.Repeat([]api.Errno{api.ErrEpoch}, 6)) {
			p.t.Fatalf("P8 to P10: engine %d: the epoch %d, which is not kept: %d", engine, epoch, got)
		}
	}
}

// shown is entries as a line that a terminal takes.
func shown(entries []api.Update) string {
	out := ""
	for _, u := range entries {
		out += fmt.Sprintf("[%x %q %v]", u.Index, u.Value, u.Gone)
	}
	return out
}

// pool is indexes that share beginnings of many lengths.
func pool(r *rand.Rand, size int) []string {
	b := make([]byte, 32)
	r.Read(b)
	out := []string{string(b)}
	for len(out) < size {
		next := flip(out[r.Intn(len(out))], []int{0, 1, 7, 8, 254, 255, r.Intn(256), r.Intn(8)}[r.Intn(8)])
		if !slices.Contains(out, next) {
			out = append(out, next)
		}
	}
	return out
}

func randomUpdate(r *rand.Rand, indexes []string) api.Update {
	u := api.Update{Index: indexes[r.Intn(len(indexes))]}
	if u.Gone = r.Intn(3) == 0; !u.Gone {
		u.Value = []string{"", "a", "b", strings.Repeat("v", 100)}[r.Intn(4)]
	}
	return u
}

// wrong is an update that may not be, of one that may.
func wrong(r *rand.Rand, u api.Update) api.Update {
	switch r.Intn(4) {
	case 0:
		u.Index = u.Index[:r.Intn(32)]
	case 1:
		u.Index += "x"
	case 2:
		u.Value, u.Gone = strings.Repeat("v", 101+r.Intn(1000)), false
	case 3:
		u.Value, u.Gone = "v", true
	}
	return u
}

func randomBatch(r *rand.Rand, indexes []string) []api.Update {
	size := []int{0, 1, 1, 2, 3, 5, 12}[r.Intn(7)]
	if r.Intn(20) == 0 {
		size = 199 + r.Intn(3)
	}
	var out []api.Update
	for range size {
		out = append(out, randomUpdate(r, indexes))
	}
	if size > 0 && r.Intn(20) == 0 {
		at := r.Intn(size)
		out[at] = wrong(r, out[at])
	}
	return out
}

// picked is some indexes of lists, so many.
func picked(r *rand.Rand, count int, lists ...[]string) []string {
	all := slices.Concat(lists...)
	r.Shuffle(len(all), func(i, j int) { all[i], all[j] = all[j], all[i] })
	return all[:min(count, len(all))]
}

// TestAgreesAtRandom: batches, prunings and refusals one behind the other, and
// after each all answers of all epochs (P1, P7 to P11).
func TestAgreesAtRandom(t *testing.T) {
	r := rand.New(rand.NewSource(1))
	seen := map[api.Errno]int{}
	for range 100 {
		c := config([]int{1, 2, 31, 32}[r.Intn(4)], 1+r.Intn(6), 100000)
		if r.Intn(2) == 0 {
			c.Cells = 1 + r.Intn([]int{10, 50, 700, 5000}[r.Intn(4)])
		}
		p := newTrio(t, c)
		indexes, others := pool(r, 2+r.Intn(12)), pool(r, 2)
		others = append(others, flip(indexes[0], r.Intn(256)), flip(indexes[1], r.Intn(256)))
		for range 25 {
			if r.Intn(8) == 0 {
				seen[p.prune(p.model.last().number-r.Intn(c.Window+1))]++
			} else {
				seen[p.apply(randomBatch(r, indexes)...)]++
			}
			p.agree(picked(r, 4, others, indexes)...)
		}
		p.agree(append(others, indexes...)...)
	}
	for _, e := range []api.Errno{api.OK, api.ErrEpoch, api.ErrBatch, api.ErrLong, api.ErrFull} {
		if seen[e] < 20 {
			t.Errorf("the answer %d came %d times only: the test says little of it", e, seen[e])
		}
	}
}

// TestAgreesOnManyEntries: batches of many updates, which several goroutines work out.
func TestAgreesOnManyEntries(t *testing.T) {
	r := rand.New(rand.NewSource(2))
	p := newTrio(t, config(32, 3, 100000))
	var indexes []string
	for range 40 {
		indexes = append(indexes, pool(r, 10)...)
	}
	for range 12 {
		var batch []api.Update
		for range 200 {
			batch = append(batch, randomUpdate(r, indexes))
		}
		if e := p.apply(batch...); e != api.OK {
			t.Fatalf("P7: Apply = %d", e)
		}
		p.agree(indexes[:20]...)
	}
}

// FuzzDirectory: each three bytes are a step.
func FuzzDirectory(f *testing.F) {
	f.Add(uint8(1), uint8(2), uint16(10), []byte("\x00\x01\x02\x10\x11\x03\xff\x01\x00\x00\x02\x02\xf0\x00\x00"))
	f.Add(uint8(32), uint8(50), uint16(9000), []byte("\x01\x00\x01\x01\x0f\x01\xff\x00\x00\x41\x00\x00\xff\x00\x00"))
	f.Fuzz(func(t *testing.T, width, window uint8, cells uint16, steps []byte) {
		p := newTrio(t, config(1+int(width)%32, 1+int(window)%50, 1+int(cells)))
		indexes := pool(rand.New(rand.NewSource(int64(cells))), 16)
		var batch []api.Update
		for ; len(steps) >= 3; steps = steps[3:] {
			switch kind := steps[0]; {
			case kind >= 0xf8:
				p.prune(int(steps[1]))
			case kind >= 0xe0:
				p.apply(batch...)
				batch = nil
				p.agree(indexes[:4]...)
			case kind >= 0x80:
				batch = append(batch, api.Update{Index: indexes[steps[1]%16], Gone: true})
			default:
				batch = append(batch, api.Update{Index: indexes[steps[1]%16], Value: strings.Repeat("v", int(steps[2]))})
			}
		}
		p.apply(batch...)
		p.agree(indexes...)
	})
}
