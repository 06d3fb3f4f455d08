package thicket_test

import (
	"crypto/sha256"
	"encoding/binary"
	"maps"
	"slices"
	"strings"

	"thicket/api"
)

// h is the digest of some texts, one behind the other, by the library.
func h(width int, parts ...string) string {
	sum := sha256.Sum256([]byte(strings.Join(parts, "")))
	return string(sum[:width])
}

// bitOf is the bit of an index, counted in another way than the program's.
func bitOf(index string, at int) int { return int(index[at/8]) >> (7 - at%8) & 1 }

// flip is the index with one bit turned over.
func flip(index string, at int) string {
	b := []byte(index)
	b[at/8] ^= 0x80 >> (at % 8)
	return string(b)
}

// state is the entries of an epoch.
type state map[string]string

func (s state) list() []api.Update {
	var out []api.Update
	for _, index := range slices.Sorted(maps.Keys(s)) {
		out = append(out, api.Update{Index: index, Value: s[index]})
	}
	return out
}

// plan is the tree of entries, worked out of them as the document tells it.
type plan struct {
	depth   int
	entries []api.Update // sorted
	digest  string
	name    string   // of the cell
	halves  [2]*plan // of a node
}

func planOf(width, depth int, entries []api.Update) *plan {
	p := &plan{depth: depth, entries: entries}
	switch len(entries) {
	case 0:
		p.digest = h(width, "\x00")
	case 1:
		p.digest = h(width, "\x01", entries[0].Index, h(width, "\x04", entries[0].Value))
		p.name = h(32, "leaf", entries[0].Index, entries[0].Value)
	default:
		var halves [2][]api.Update
		for _, u := range entries {
			bit := bitOf(u.Index, depth)
			halves[bit] = append(halves[bit], u)
		}
		for bit, half := range halves {
			p.halves[bit] = planOf(width, depth+1, half)
		}
		p.digest = h(width, "\x02", p.halves[0].digest, p.halves[1].digest)
		p.name = h(32, "node", string([]byte{byte(depth)}), p.halves[0].name, ",", p.halves[1].name)
	}
	return p
}

// names lays the name of each cell into a set. Two cells have one name if epochs
// that lie one behind the other have them in common: the name of a leaf hangs on its
// entry alone, that of a node on its depth and all entries under it (of which the
// depth tells the beginning of indexes).
func (p *plan) names(out map[string]bool) {
	if len(p.entries) == 0 {
		return
	}
	out[p.name] = true
	if len(p.entries) > 1 {
		p.halves[0].names(out)
		p.halves[1].names(out)
	}
}

// prove is the proof of an index.
func (p *plan) prove(width int, index string) string {
	marks, told, empty := "", "", h(width, "\x00")
	for len(p.entries) > 1 {
		bit := bitOf(index, p.depth)
		if beside := p.halves[1-bit].digest; beside == empty {
			marks += "0"
		} else {
			marks, told = marks+"1", told+beside
		}
		p = p.halves[bit]
	}
	kind, end := byte(0), ""
	if len(p.entries) == 1 {
		kind, end = 1, p.entries[0].Value
		if other := p.entries[0].Index; other != index {
			kind, end = 2, other+h(width, "\x04", p.entries[0].Value)
		}
	}
	return string([]byte{kind, byte(p.depth / 256), byte(p.depth % 256)}) + packed(marks) + told + end
}

// packed is bits, told by the letters 0 and 1, in bytes.
func packed(bits string) string {
	for len(bits)%8 != 0 {
		bits += "0"
	}
	var out []byte
	for ; bits != ""; bits = bits[8:] {
		b := byte(0)
		for _, c := range bits[:8] {
			b = 2*b + byte(c-'0')
		}
		out = append(out, b)
	}
	return string(out)
}

// epoch is what the model keeps of one.
type epoch struct {
	number int
	state  state
	plan   *plan
	cells  map[string]bool // their names
	head   string
}

// model says what a directory must answer, by the words of the document: of each
// epoch it keeps the whole state, and works all out of it.
type model struct {
	config api.Config
	kept   []epoch
}

func newModel(c api.Config) *model {
	m := &model{config: c}
	m.kept = []epoch{m.epochOf(0, state{}, h(c.Width, "\x03"))}
	return m
}

func (m *model) epochOf(number int, s state, head string) epoch {
	e := epoch{number: number, state: s, plan: planOf(m.config.Width, 0, s.list()), cells: map[string]bool{}, head: head}
	e.plan.names(e.cells)
	return e
}

func (m *model) last() epoch { return m.kept[len(m.kept)-1] }

// cellsOf is how many cells epochs have that lie one behind the other.
func cellsOf(epochs []epoch) int {
	count := 0
	var ahead map[string]bool
	for _, e := range epochs {
		for name := range e.cells {
			if !ahead[name] {
				count++
			}
		}
		ahead = e.cells
	}
	return count
}

func (m *model) apply(batch []api.Update) (int, api.Errno) {
	next := maps.Clone(m.last().state)
	for _, u := range batch {
		if len(u.Index) != 32 || len(u.Value) > 100 || u.Gone && len(u.Value) > 0 {
			return 0, api.ErrBatch
		}
		if next[u.Index] = u.Value; u.Gone {
			delete(next, u.Index)
		}
	}
	if len(batch) > 200 || len(next) > 2000 {
		return 0, api.ErrLong
	}
	e := m.epochOf(m.last().number+1, next, "")
	number := string(binary.BigEndian.AppendUint64(nil, uint64(e.number)))
	e.head = h(m.config.Width, "\x03", m.last().head, number, e.plan.digest)
	all := append(slices.Clone(m.kept), e)
	if cellsOf(all) > m.config.Cells {
		return 0, api.ErrFull
	}
	m.kept = all[max(0, len(all)-m.config.Window):]
	return e.number, api.OK
}

func (m *model) prune(number int) api.Errno {
	for i, e := range m.kept {
		if e.number == number {
			m.kept = m.kept[i:]
			return api.OK
		}
	}
	return api.ErrEpoch
}
