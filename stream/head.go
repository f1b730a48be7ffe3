package stream

import (
	"slices"

	"strand/api"
)

// What the texts of streams and of chunks and those that are unsorted begin with.
const (
	streamMagic   = "STRD"
	chunkMagic    = "STRC"
	unsortedMagic = "STRU"
)

// How many bytes there are: of the head of a stream's text, or of an unsorted one; of a chunk's head; of a record ahead of its data; of the check.
const (
	headBytes      = 18
	chunkHeadBytes = 24
	blockBytes     = 3
	checkBytes     = 4
)

// The bytes with which records begin.
const (
	written = 1
	freed   = 2
)

// head is what a text tells ahead of its records; many is how many of them there are.
type head struct {
	from, to, blocks, size, many int
}

// headOf is the head of a stream's text.
func headOf(s api.Stream) head {
	return head{from: s.From, to: s.To, blocks: s.Blocks, size: s.Size, many: len(s.Records)}
}

// stream is the one with these records behind the head.
func (h head) stream(records []api.Record) api.Stream {
	return api.Stream{From: h.from, To: h.to, Blocks: h.blocks, Size: h.size, Records: records}
}

// wellMade tells whether a stream that is well made may have this head.
func (h head) wellMade() bool { return h.fits(h.blocks) }

// fits tells whether the numbers are those of a stream that is well made, and there are no more records than most.
func (h head) fits(most int) bool {
	return within(h.from, 0, api.MaxId) && within(h.to, 1, api.MaxId) && h.from != h.to &&
		within(h.blocks, 1, api.MaxBlocks) && within(h.size, 1, api.MaxSize) && h.many <= most
}

// within tells whether n is one of the numbers from least to most.
func within(n, least, most int) bool { return least <= n && n <= most }

// wellMade tells whether a stream is.
func wellMade(s api.Stream) bool {
	h := headOf(s)
	if !h.wellMade() {
		return false
	}
	last := -1
	for r := range slices.Values(s.Records) {
		if r.Block <= last || r.Block >= h.blocks || !filled(r.Data, !r.Free, h.size) {
			return false
		}
		last = r.Block
	}
	return true
}
