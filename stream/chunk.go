package stream

import (
	"cmp"
	"iter"
	"slices"

	"strand/api"
	"strand/wire"
)

// chunkHeadBytes is how many bytes a chunk's head has.
const chunkHeadBytes = 24

// bareBytes is how many bytes a chunk without records has.
const bareBytes = chunkHeadBytes + wire.CheckBytes

// chunk is a piece of a stream: the stream's head, the chunk's number, how many chunks there are, and the records that are here.
type chunk struct {
	head           wire.Head
	number, chunks int
	records        []api.Record
}

// recordBytes is how many bytes a record has in a text.
func recordBytes(r api.Record) int { return wire.BlockBytes + len(r.Data) }

// longest is how many bytes that one of the records has that has most of them; 0 without records.
func longest(records iter.Seq[api.Record]) int {
	most := 0
	for r := range records {
		most = max(most, recordBytes(r))
	}
	return most
}

// pieces are the records cut into lists: each has as many as go into a chunk of limit bytes, into which each of them goes alone. There is one at least.
func pieces(records iter.Seq[api.Record], limit int) [][]api.Record {
	var list [][]api.Record
	var piece []api.Record
	bytes := bareBytes
	for r := range records {
		n := recordBytes(r)
		if bytes+n > limit {
			list = append(list, piece)
			piece, bytes = nil, bareBytes
		}
		piece = append(piece, r)
		bytes += n
	}
	return append(list, piece)
}

// chunkTexts are the texts of the chunks that have these pieces of the stream with this head.
func chunkTexts(h wire.Head, list [][]api.Record) []string {
	texts := make([]string, len(list))
	for i, piece := range list {
		texts[i] = writeChunk(chunk{head: h, number: i, chunks: len(list), records: piece})
	}
	return texts
}

// readChunk reads a chunk's text whole.
func readChunk(text string) chunk {
	in := wire.OverText(text)
	c, here := chunkHead(in)
	c.records = slices.Collect(in.Records(c.head, here))
	return c
}

// chunkHead reads what stands ahead of a chunk's records, and how many of them are here.
func chunkHead(in *wire.Reader) (c chunk, here int) {
	c.head = in.Begin(wire.ChunkMagic, chunkHeadBytes)
	c.number = int(in.Number(2))
	c.chunks = int(in.Number(2))
	here = int(in.Number(2))
	if !c.head.WellMade() || c.number >= c.chunks || here > c.head.Many {
		panic(api.ErrHead)
	}
	return c, here
}

// joined is the stream whose chunks these are, in any order; whether they are the chunks of one.
func joined(list []chunk) (api.Stream, bool) {
	slices.SortFunc(list, func(a, b chunk) int { return cmp.Compare(a.number, b.number) })
	if !complete(list) {
		return api.Stream{}, false
	}
	h := list[0].head
	s := h.Stream(slices.Collect(inTurn(list)))
	return s, len(s.Records) == h.Many && wellMade(s)
}

// complete tells whether the chunks, which are sorted by their numbers, have one head and are just those that it takes, each once.
func complete(list []chunk) bool {
	for i, c := range list {
		if c.head != list[0].head || c.chunks != len(list) || c.number != i {
			return false
		}
	}
	return true
}

// inTurn goes through the records of the chunks, one behind the other.
func inTurn(list []chunk) iter.Seq[api.Record] {
	return func(yield func(api.Record) bool) {
		for _, c := range list {
			for _, r := range c.records {
				if !yield(r) {
					return
				}
			}
		}
	}
}
