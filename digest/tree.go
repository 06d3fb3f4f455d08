package digest

// The first byte of a text tells what the text stands for, so that no two
// kinds of things share one.
const (
	emptyTag = "\x00"
	leafTag  = "\x01"
	nodeTag  = "\x02"
	valueTag = "\x04"
)

// Empty is the digest of the tree of no entries.
func Empty(width int) string { return Of(width, emptyTag) }

// Value is the digest by which a leaf tells its value.
func Value(width int, value string) string { return Of(width, valueTag+value) }

// Leaf is the digest of the tree of one entry. It takes the digest of the value,
// for a proof of another index tells no more of it.
func Leaf(width int, index, value string) string { return Of(width, leafTag+index+value) }

// Node is the digest of a tree of two trees: that of the bit 0 and that of the bit 1.
func Node(width int, zero, one string) string { return Of(width, nodeTag+zero+one) }
