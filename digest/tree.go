package digest

// The first byte of a text tells what the text stands for, so that no two
// kinds of things share one.
const (
	emptyTag = "\x00"
	leafTag  = "\x01"
	nodeTag  = "\x02"
	headTag  = "\x03"
	valueTag = "\x04"
)

// EmptyText is that of which the digest of the tree of no entries is made.
func EmptyText() string { return emptyTag }

// ValueText is that of which the digest is made by which a leaf tells its value.
func ValueText(value string) string { return valueTag + value }

// LeafText is that of which the digest of the tree of one entry is made. It takes
// the digest of the value, for a proof of another index tells no more of it.
func LeafText(index, value string) string { return leafTag + index + value }

// NodeText is that of which the digest of a tree of two trees is made: of the
// digest of the one of the bit 0 and that of the one of the bit 1.
func NodeText(zero, one string) string { return nodeTag + zero + one }

// Empty is the digest of the tree of no entries.
func Empty(width int) string { return Of(width, EmptyText()) }

// Value is the digest by which a leaf tells its value.
func Value(width int, value string) string { return Of(width, ValueText(value)) }

// FirstHead is the head of the epoch 0.
func FirstHead(width int) string { return Of(width, headTag) }

// Head is the head of an epoch behind another one, of the head of that.
func Head(width int, ahead string, epoch int, root string) string {
	return Of(width, headTag+ahead+eightBytes(uint64(epoch))+root)
}
