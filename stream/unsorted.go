package stream

import (
	"cmp"
	"iter"
	"slices"

	"strand/api"
)

// readUnsorted reads an unsorted text whole, and is the stream that has of each block its last record.
func readUnsorted(text string) api.Stream {
	in := &reader{text: text}
	h := in.unsortedHead()
	return h.stream(latestOf(slices.Collect(in.unsorted(h))))
}

// unsortedHead reads what stands ahead of an unsorted text's records, of which there may be more than blocks.
func (in *reader) unsortedHead() head {
	h := in.begin(unsortedMagic, headBytes)
	if !h.fits(api.MaxRaw) {
		panic(api.ErrHead)
	}
	return h
}

// unsorted goes, once, through the records behind the head h, and asks behind the last of them that the text ends there. Where yield tells false it ends, and has read no further.
func (in *reader) unsorted(h head) iter.Seq[api.Record] {
	return func(yield func(api.Record) bool) {
		for r := range in.loose(h, h.many) {
			if !yield(r) {
				return
			}
		}
		in.nothing()
	}
}

// latestOf is the last record of each block, in rising order of the blocks; it is made in the list's own memory.
func latestOf(list []api.Record) []api.Record {
	// Turned round, the last record of a block stands first, and that is the one which is kept of them.
	slices.Reverse(list)
	slices.SortStableFunc(list, func(a, b api.Record) int { return cmp.Compare(a.Block, b.Block) })
	return slices.CompactFunc(list, func(a, b api.Record) bool { return a.Block == b.Block })
}
