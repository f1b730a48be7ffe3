package wire

import (
	"cmp"
	"iter"
	"slices"

	"strand/api"
)

// source is an iterator that is gone through step by step: the record at which it stands, if there is one more.
type source struct {
	next func() (api.Record, bool)
	at   api.Record
	more bool
}

// step goes on to the next record.
func (s *source) step() { s.at, s.more = s.next() }

// Merged goes through the records of several iterators, each of them in rising order of the blocks, as through those of one. Of each block it tells the record of the last iterator that has one.
func Merged(parts []iter.Seq[api.Record]) iter.Seq[api.Record] {
	return func(yield func(api.Record) bool) {
		sources := make([]source, len(parts))
		for i, records := range parts {
			next, stop := iter.Pull(records)
			defer stop()
			sources[i].next = next
			sources[i].step()
		}
		for {
			r, more := least(sources)
			if !more || !yield(r) {
				return
			}
			pass(sources, r.Block)
		}
	}
}

// least is the record of the least block at which a source stands, of the last source that stands there; whether there is one.
func least(sources []source) (api.Record, bool) {
	found := source{}
	for _, s := range sources {
		if s.more && (!found.more || s.at.Block <= found.at.Block) {
			found = s
		}
	}
	return found.at, found.more
}

// pass lets all sources that stand at this block go on; the others are not asked, so that nothing is read too early.
func pass(sources []source, block int) {
	for i := range sources {
		if s := &sources[i]; s.more && s.at.Block == block {
			s.step()
		}
	}
}

// LatestOf is the last record of each block, in rising order of the blocks; it is made in the list's own memory.
func LatestOf(list []api.Record) []api.Record {
	// Turned round, the last record of a block stands first, and that is the one which is kept of them.
	slices.Reverse(list)
	slices.SortStableFunc(list, func(a, b api.Record) int { return cmp.Compare(a.Block, b.Block) })
	return slices.CompactFunc(list, func(a, b api.Record) bool { return a.Block == b.Block })
}
