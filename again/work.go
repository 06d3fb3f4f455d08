package again

import (
	"thicket/digest"
	"thicket/gather"
)

// workOut is the digests of trees, of each of them: it takes them apart till there
// are enough nodes for goroutines, or none any more, and joins what these make.
func (t *Trees) workOut(trees []tree) []string {
	list := nodes(trees)
	if len(list) == 0 || len(list) >= gather.Enough {
		return gather.All(trees, t.digestOf)
	}
	return t.join(trees, t.workOut(parted(list)))
}

// nodes is those of the trees that are nodes.
func nodes(trees []tree) []tree {
	var out []tree
	for _, c := range trees {
		if !c.ends() {
			out = append(out, c)
		}
	}
	return out
}

// parted is the two trees of each node.
func parted(nodes []tree) []tree {
	var out []tree
	for _, c := range nodes {
		zero, one := c.halves()
		out = append(out, zero, one)
	}
	return out
}

// join is the digests of trees, if those of the two trees of each node among them
// are known.
func (t *Trees) join(trees []tree, under []string) []string {
	var out []string
	for _, c := range trees {
		if c.ends() {
			out = append(out, t.digestOf(c))
			continue
		}
		out = append(out, t.node(under[0], under[1]))
		under = under[2:]
	}
	return out
}

// digestOf is the digest of a tree, as the document tells it.
func (t *Trees) digestOf(c tree) string {
	switch len(c.entries) {
	case 0:
		return t.empty
	case 1:
		u := c.entries[0]
		return digest.Of(t.width, digest.LeafText(u.Index, digest.Value(t.width, u.Value)))
	}
	zero, one := c.halves()
	return t.node(t.digestOf(zero), t.digestOf(one))
}

func (t *Trees) node(zero, one string) string {
	return digest.Of(t.width, digest.NodeText(zero, one))
}
