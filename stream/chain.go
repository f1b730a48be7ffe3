package stream

import (
	"iter"
	"slices"

	"strand/api"
	"strand/wire"
)

// whole tells whether a stream is a whole one.
func whole(s api.Stream) bool {
	return s.From == 0 && !slices.ContainsFunc(s.Records, func(r api.Record) bool { return r.Free })
}

// linked tells whether each stream goes on where the one ahead ends, and the last ends elsewhere than the first begins.
func linked(chain []api.Stream) bool {
	last := chain[0]
	for _, s := range chain[1:] {
		if s.Blocks != last.Blocks || s.Size != last.Size || s.From != last.To {
			return false
		}
		last = s
	}
	return last.To != chain[0].From
}

// latest goes through the records of the streams, merged: of each block that of the last stream that has one.
func latest(chain []api.Stream) iter.Seq[api.Record] {
	parts := make([]iter.Seq[api.Record], len(chain))
	for i, s := range chain {
		parts[i] = slices.Values(s.Records)
	}
	return wire.Merged(parts)
}

// textOf is the text of the stream from where the chain begins to where it ends, with these records.
func textOf(chain []api.Stream, records iter.Seq[api.Record]) string {
	s := chain[0]
	s.To = chain[len(chain)-1].To
	s.Records = slices.Collect(records)
	return write(s)
}

// held goes through the records that are not Free.
func held(records iter.Seq[api.Record]) iter.Seq[api.Record] {
	return func(yield func(api.Record) bool) {
		for r := range records {
			if !r.Free && !yield(r) {
				return
			}
		}
	}
}
