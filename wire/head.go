package wire

import "strand/api"

// What the texts of streams and of chunks and those that are unsorted begin with.
const (
	StreamMagic   = "STRD"
	ChunkMagic    = "STRC"
	UnsortedMagic = "STRU"
)

// How many bytes there are: of the head of a stream's text, or of an unsorted one; of a record ahead of its data; of the check.
const (
	HeadBytes  = 18
	BlockBytes = 3
	CheckBytes = 4
)

// The bytes with which records begin.
const (
	written = 1
	freed   = 2
)

// Head is what a text tells ahead of its records; Many is how many of them there are.
type Head struct {
	From, To, Blocks, Size, Many int
}

// HeadOf is the head of a stream's text.
func HeadOf(s api.Stream) Head {
	return Head{From: s.From, To: s.To, Blocks: s.Blocks, Size: s.Size, Many: len(s.Records)}
}

// Stream is the one with these records behind the head.
func (h Head) Stream(records []api.Record) api.Stream {
	return api.Stream{From: h.From, To: h.To, Blocks: h.Blocks, Size: h.Size, Records: records}
}

// WellMade tells whether a stream that is well made may have this head.
func (h Head) WellMade() bool { return h.fits(h.Blocks) }

// fits tells whether the numbers are those of a stream that is well made, and there are no more records than most.
func (h Head) fits(most int) bool {
	return Within(h.From, 0, api.MaxId) && Within(h.To, 1, api.MaxId) && h.From != h.To &&
		Within(h.Blocks, 1, api.MaxBlocks) && Within(h.Size, 1, api.MaxSize) && h.Many <= most
}

// Within tells whether n is one of the numbers from least to most.
func Within(n, least, most int) bool { return least <= n && n <= most }
