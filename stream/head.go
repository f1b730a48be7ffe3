package stream

import (
	"slices"

	"strand/api"
)

// What a stream's text begins with, how many bytes its head has, and the bytes with which its records begin.
const (
	magic     = "STRD"
	headBytes = 18
	written   = 1
	freed     = 2
)

// head is what a text tells ahead of its records; many is how many of them there are.
type head struct {
	from, to, blocks, size, many int
}

// headOf is the head of a stream's text.
func headOf(s api.Stream) head {
	return head{from: s.From, to: s.To, blocks: s.Blocks, size: s.Size, many: len(s.Records)}
}

// wellMade tells whether a stream that is well made may have this head.
func (h head) wellMade() bool {
	return within(h.from, 0, api.MaxId) && within(h.to, 1, api.MaxId) && h.from != h.to &&
		within(h.blocks, 1, api.MaxBlocks) && within(h.size, 1, api.MaxSize) && h.many <= h.blocks
}

// within tells whether n is one of the numbers from least to most.
func within(n, least, most int) bool { return least <= n && n <= most }

// follows tells whether a record of this block may stand behind one of the block last (-1: behind none).
func (h head) follows(block, last int) bool { return last < block && block < h.blocks }

// wellMade tells whether a stream is.
func wellMade(s api.Stream) bool {
	h := headOf(s)
	if !h.wellMade() {
		return false
	}
	last := -1
	for r := range slices.Values(s.Records) {
		if !h.follows(r.Block, last) || !filled(r.Data, !r.Free, h.size) {
			return false
		}
		last = r.Block
	}
	return true
}
