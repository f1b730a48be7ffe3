package stream

import (
	"cmp"
	"iter"
	"slices"

	"strand/api"
)

// bareBytes is how many bytes a chunk without records has.
const bareBytes = chunkHeadBytes + checkBytes

// chunk is a piece of a stream: the stream's head, the chunk's number, how many chunks there are, and the records that are here.
type chunk struct {
	head           head
	number, chunks int
	records        []api.Record
}

// recordBytes is how many bytes a record has in a text.
func recordBytes(r api.Record) int { return blockBytes + len(r.Data) }

// longest is how many bytes that one of the records has that has most of them; 0 without records.
func longest(records iter.Seq[api.Record]) int {
	most := 0
	for r := range records {
		most = max(most, recordBytes(r))
	}
	return most
}

// pieces are the records cut into lists: each has as many as go into a chunk of limit bytes, into which each of them goes alone. There is one at least.
func pieces(records iter.Seq[api.Record], limit int) [][]api.Record {
	var list [][]api.Record
	var piece []api.Record
	bytes := bareBytes
	for r := range records {
		n := recordBytes(r)
		if bytes+n > limit {
			list = append(list, piece)
			piece, bytes = nil, bareBytes
		}
		piece = append(piece, r)
		bytes += n
	}
	return append(list, piece)
}

// chunkTexts are the texts of the chunks that have these pieces of the stream with this head.
func chunkTexts(h head, list [][]api.Record) []string {
	texts := make([]string, len(list))
	for i, piece := range list {
		texts[i] = writeChunk(chunk{head: h, number: i, chunks: len(list), records: piece})
	}
	return texts
}

// readChunk reads a chunk's text whole.
func readChunk(text string) chunk {
	in := &reader{text: text}
	c, here := in.chunkHead()
	c.records = slices.Collect(in.records(c.head, here))
	return c
}

// chunkHead reads what stands ahead of a chunk's records, and how many of them are here.
func (in *reader) chunkHead() (c chunk, here int) {
	c.head = in.begin(chunkMagic, chunkHeadBytes)
	c.number = int(in.number(2))
	c.chunks = int(in.number(2))
	here = int(in.number(2))
	if !c.head.wellMade() || c.number >= c.chunks || here > c.head.many {
		panic(api.ErrHead)
	}
	return c, here
}

// joined is the stream whose chunks these are, in any order; whether they are the chunks of one.
func joined(list []chunk) (api.Stream, bool) {
	slices.SortFunc(list, func(a, b chunk) int { return cmp.Compare(a.number, b.number) })
	if !complete(list) {
		return api.Stream{}, false
	}
	h := list[0].head
	s := h.stream(slices.Collect(inTurn(list)))
	return s, len(s.Records) == h.many && wellMade(s)
}

// complete tells whether the chunks, which are sorted by their numbers, have one head and are just those that it takes, each once.
func complete(list []chunk) bool {
	for i, c := range list {
		if c.head != list[0].head || c.chunks != len(list) || c.number != i {
			return false
		}
	}
	return true
}

// inTurn goes through the records of the chunks, one behind the other.
func inTurn(list []chunk) iter.Seq[api.Record] {
	return func(yield func(api.Record) bool) {
		for _, c := range list {
			for _, r := range c.records {
				if !yield(r) {
					return
				}
			}
		}
	}
}
