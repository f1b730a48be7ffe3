package stream

import (
	"iter"
	"slices"

	"strand/api"
	"strand/wire"
)

// readStream reads a stream's text whole.
func readStream(text string) api.Stream {
	in := wire.OverText(text)
	h := in.Head()
	return h.Stream(slices.Collect(in.Records(h, h.Many)))
}

// readUnsorted reads an unsorted text whole, and is the stream that has of each block its last record.
func readUnsorted(text string) api.Stream {
	in := wire.OverText(text)
	h := in.UnsortedHead()
	return h.Stream(wire.LatestOf(slices.Collect(in.Unsorted(h))))
}

// readAll reads texts of which there must be one at least and most at most: all of them, since what can't be read is told ahead of what does not go together.
func readAll[T any](texts []string, most int, read func(text string) T) ([]T, api.Errno) {
	if !wire.Within(len(texts), 1, most) {
		return nil, api.ErrArg
	}
	return atFace(func() []T {
		list := make([]T, len(texts))
		for i, text := range texts {
			list[i] = read(text)
		}
		return list
	})
}

// readSome reads a stream's text up to the records that are asked for, and no further if there are more.
func readSome(text string, from, many int) []api.Record {
	in := wire.OverText(text)
	h := in.Head()
	records := in.Records(h, h.Many)
	// Held against h.Many one by one: the sum of the two may be more than an int can hold.
	if from < h.Many && many < h.Many-from {
		records = first(from+many, records)
	}
	return slices.Collect(behind(from, records))
}

// first goes through the first n records, and asks for no more than these.
func first(n int, records iter.Seq[api.Record]) iter.Seq[api.Record] {
	return func(yield func(api.Record) bool) {
		if n == 0 {
			return
		}
		told := 0
		for r := range records {
			told++
			if !yield(r) || told == n {
				return
			}
		}
	}
}

// behind goes through all records but the first n.
func behind(n int, records iter.Seq[api.Record]) iter.Seq[api.Record] {
	return func(yield func(api.Record) bool) {
		passed := 0
		for r := range records {
			if passed < n {
				passed++
				continue
			}
			if !yield(r) {
				return
			}
		}
	}
}
