package wire

import (
	"iter"

	"strand/api"
)

// Text goes through a text piece by piece: the head, each of the records, the check of all these.
func Text(head string, records iter.Seq[api.Record]) iter.Seq[string] {
	return func(yield func(string) bool) {
		s := begun.behind(head)
		if !yield(head) {
			return
		}
		for r := range records {
			piece := RecordText(r)
			s = s.behind(piece)
			if !yield(piece) {
				return
			}
		}
		yield(NumberText(s.check(), CheckBytes))
	}
}

// HeadText is the text with which all heads begin.
func HeadText(magic string, h Head) string {
	return magic + NumberText(uint32(h.From), 4) + NumberText(uint32(h.To), 4) +
		NumberText(uint32(h.Blocks), 2) + NumberText(uint32(h.Size), 2) + NumberText(uint32(h.Many), 2)
}

// RecordText is the text of a record.
func RecordText(r api.Record) string {
	kind := uint32(written)
	if r.Free {
		kind = freed
	}
	return NumberText(kind, 1) + NumberText(uint32(r.Block), 2) + r.Data
}

// NumberText is a number in so many bytes, the highest first.
func NumberText(n uint32, bytes int) string {
	out := make([]byte, bytes)
	for i := range out {
		out[i] = byte(n >> (8 * (bytes - 1 - i)))
	}
	return string(out)
}
