package stream

import (
	"iter"
	"slices"
	"strings"

	"strand/api"
)

// reader is a text and how many of its bytes have been read. What it can't read it gives up by panic with the error's number: see atFace.
type reader struct {
	text string
	at   int
}

// take reads the next n bytes.
func (in *reader) take(n int) string {
	if n > len(in.text)-in.at {
		panic(api.ErrShort)
	}
	in.at += n
	return in.text[in.at-n : in.at]
}

// number reads a number of so many bytes, the highest first.
func (in *reader) number(bytes int) uint32 {
	n := uint32(0)
	for _, b := range []byte(in.take(bytes)) {
		n = n<<8 | uint32(b)
	}
	return n
}

// head reads what stands ahead of a stream's records.
func (in *reader) head() head {
	h := in.begin(streamMagic, headBytes)
	if !h.wellMade() {
		panic(api.ErrHead)
	}
	return h
}

// begin reads the first bytes of a text that has a head of so many bytes in all, up to how many records there are. Whether the head may be is still to be asked.
func (in *reader) begin(magic string, bytes int) head {
	// A text without a whole head is short, whatever it begins with.
	if len(in.text) < bytes {
		panic(api.ErrShort)
	}
	if in.take(len(magic)) != magic {
		panic(api.ErrMagic)
	}
	return head{
		from:   int(in.number(4)),
		to:     int(in.number(4)),
		blocks: int(in.number(2)),
		size:   int(in.number(2)),
		many:   int(in.number(2)),
	}
}

// records goes, once, through the next n records, in rising order of their blocks, and reads on to the text's end behind the last of them. Where yield tells false it ends, and has read no further.
func (in *reader) records(h head, n int) iter.Seq[api.Record] {
	return func(yield func(api.Record) bool) {
		last := -1
		for r := range in.loose(h, n) {
			if r.Block <= last {
				panic(api.ErrOrder)
			}
			last = r.Block
			if !yield(r) {
				return
			}
		}
		in.end()
	}
}

// loose goes, once, through the next n records, in any order of their blocks. Where yield tells false it ends, and has read no further.
func (in *reader) loose(h head, n int) iter.Seq[api.Record] {
	return func(yield func(api.Record) bool) {
		for range n {
			r := in.record(h.size)
			if r.Block >= h.blocks {
				panic(api.ErrOrder)
			}
			if !yield(r) {
				return
			}
		}
	}
}

// record reads a record of any block. Its data is a copy, so that it does not keep the text.
func (in *reader) record(size int) api.Record {
	kind := in.number(1)
	if kind != written && kind != freed {
		panic(api.ErrKind)
	}
	r := api.Record{Free: kind == freed, Block: int(in.number(2))}
	if !r.Free {
		r.Data = strings.Clone(in.take(size))
	}
	return r
}

// end reads the check of all bytes ahead, behind which there may be nothing.
func (in *reader) end() {
	sum := check(in.text[:in.at])
	if in.number(checkBytes) != sum {
		panic(api.ErrSum)
	}
	in.nothing()
}

// nothing asks that no bytes are left.
func (in *reader) nothing() {
	if in.at < len(in.text) {
		panic(api.ErrRest)
	}
}

// readStream reads a stream's text whole.
func readStream(text string) api.Stream {
	in := &reader{text: text}
	h := in.head()
	return h.stream(slices.Collect(in.records(h, h.many)))
}

// readAll reads texts of which there must be one at least and most at most: all of them, since what can't be read is told ahead of what does not go together.
func readAll[T any](texts []string, most int, read func(text string) T) ([]T, api.Errno) {
	if !within(len(texts), 1, most) {
		return nil, api.ErrArg
	}
	return atFace(func() []T {
		list := make([]T, len(texts))
		for i, text := range texts {
			list[i] = read(text)
		}
		return list
	})
}

// readSome reads a stream's text up to the records that are asked for, and no further if there are more.
func readSome(text string, from, many int) []api.Record {
	in := &reader{text: text}
	h := in.head()
	records := in.records(h, h.many)
	// Held against h.many one by one: the sum of the two may be more than an int can hold.
	if from < h.many && many < h.many-from {
		records = first(from+many, records)
	}
	return slices.Collect(behind(from, records))
}

// first goes through the first n records, and asks for no more than these.
func first(n int, records iter.Seq[api.Record]) iter.Seq[api.Record] {
	return func(yield func(api.Record) bool) {
		if n == 0 {
			return
		}
		told := 0
		for r := range records {
			told++
			if !yield(r) || told == n {
				return
			}
		}
	}
}

// behind goes through all records but the first n.
func behind(n int, records iter.Seq[api.Record]) iter.Seq[api.Record] {
	return func(yield func(api.Record) bool) {
		passed := 0
		for r := range records {
			if passed < n {
				passed++
				continue
			}
			if !yield(r) {
				return
			}
		}
	}
}
