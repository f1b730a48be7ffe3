package stream

import (
	"iter"
	"slices"
	"strings"

	"strand/api"
	"strand/wire"
)

// write is the text of a stream that is well made.
func write(s api.Stream) string {
	return closed(wire.HeadText(wire.StreamMagic, wire.HeadOf(s)), slices.Values(s.Records))
}

// writeChunk is the text of a chunk.
func writeChunk(c chunk) string {
	head := wire.HeadText(wire.ChunkMagic, c.head)
	for _, n := range []int{c.number, c.chunks, len(c.records)} {
		head += wire.NumberText(uint32(n), 2)
	}
	return closed(head, slices.Values(c.records))
}

// closed is the text that begins with this head, has these records behind it, and the check.
func closed(head string, records iter.Seq[api.Record]) string {
	return strings.Join(slices.Collect(wire.Text(head, records)), "")
}
