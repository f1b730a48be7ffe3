package stream

import (
	"iter"
	"slices"

	"strand/api"
)

// write is the text of a stream that is well made.
func write(s api.Stream) string {
	return closed(appendHead(nil, streamMagic, headOf(s)), slices.Values(s.Records))
}

// writeChunk is the text of a chunk.
func writeChunk(c chunk) string {
	out := appendHead(nil, chunkMagic, c.head)
	out = appendNumber(out, uint32(c.number), 2)
	out = appendNumber(out, uint32(c.chunks), 2)
	out = appendNumber(out, uint32(len(c.records)), 2)
	return closed(out, slices.Values(c.records))
}

// closed is the text that begins with out, has these records behind it, and the check.
func closed(out []byte, records iter.Seq[api.Record]) string {
	for r := range records {
		out = appendRecord(out, r)
	}
	return string(appendNumber(out, check(string(out)), checkBytes))
}

// appendHead writes what all heads begin with.
func appendHead(out []byte, magic string, h head) []byte {
	out = append(out, magic...)
	out = appendNumber(out, uint32(h.from), 4)
	out = appendNumber(out, uint32(h.to), 4)
	out = appendNumber(out, uint32(h.blocks), 2)
	out = appendNumber(out, uint32(h.size), 2)
	return appendNumber(out, uint32(h.many), 2)
}

// appendRecord writes a record.
func appendRecord(out []byte, r api.Record) []byte {
	kind := byte(written)
	if r.Free {
		kind = freed
	}
	out = appendNumber(append(out, kind), uint32(r.Block), 2)
	return append(out, r.Data...)
}

// appendNumber writes a number in so many bytes, the highest first.
func appendNumber(out []byte, n uint32, bytes int) []byte {
	for shift := 8 * (bytes - 1); shift >= 0; shift -= 8 {
		out = append(out, byte(n>>shift))
	}
	return out
}
