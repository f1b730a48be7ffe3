package stream

import (
	"iter"

	"strand/api"
)

// write is the text of the stream with this head and these records.
func write(h head, records iter.Seq[api.Record]) string {
	out := appendHead(nil, h)
	for r := range records {
		out = appendRecord(out, r)
	}
	return string(appendNumber(out, check(string(out)), 4))
}

// appendHead writes what stands ahead of the records.
func appendHead(out []byte, h head) []byte {
	out = append(out, magic...)
	out = appendNumber(out, uint32(h.from), 4)
	out = appendNumber(out, uint32(h.to), 4)
	out = appendNumber(out, uint32(h.blocks), 2)
	out = appendNumber(out, uint32(h.size), 2)
	return appendNumber(out, uint32(h.many), 2)
}

// appendRecord writes a record.
func appendRecord(out []byte, r api.Record) []byte {
	kind := byte(written)
	if r.Free {
		kind = freed
	}
	out = appendNumber(append(out, kind), uint32(r.Block), 2)
	return append(out, r.Data...)
}

// appendNumber writes a number in so many bytes, the highest first.
func appendNumber(out []byte, n uint32, bytes int) []byte {
	for shift := 8 * (bytes - 1); shift >= 0; shift -= 8 {
		out = append(out, byte(n>>shift))
	}
	return out
}
