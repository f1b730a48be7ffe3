package stream

import (
	"iter"
	"strings"

	"strand/api"
)

// isVolume tells whether v is a volume of so many blocks of so many bytes.
func isVolume(v []api.Cell, blocks, size int) bool {
	if len(v) != blocks {
		return false
	}
	for _, c := range v {
		if !filled(c.Data, c.Held, size) {
			return false
		}
	}
	return true
}

// filled tells whether data has all bytes of a block that is held, or none of one that is not.
func filled(data string, held bool, size int) bool {
	if !held {
		return data == ""
	}
	return len(data) == size
}

// changed is the volume v behind these records. Even the bytes of the blocks that stay are copied, so that the answer keeps nothing of v.
func changed(v []api.Cell, records iter.Seq[api.Record]) []api.Cell {
	out := make([]api.Cell, len(v))
	for i, c := range v {
		out[i] = api.Cell{Held: c.Held, Data: strings.Clone(c.Data)}
	}
	for r := range records {
		out[r.Block] = api.Cell{Held: !r.Free, Data: r.Data}
	}
	return out
}
