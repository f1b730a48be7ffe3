package stream

import (
	"iter"
	"slices"
	"strings"

	"strand/api"
)

// reader is a text and how many of its bytes have been read. What it can't read it gives up by panic with the error's number: see atFace.
type reader struct {
	text string
	at   int
}

// take reads the next n bytes.
func (in *reader) take(n int) string {
	if n > len(in.text)-in.at {
		panic(api.ErrShort)
	}
	in.at += n
	return in.text[in.at-n : in.at]
}

// number reads a number of so many bytes, the highest first.
func (in *reader) number(bytes int) uint32 {
	n := uint32(0)
	for _, b := range []byte(in.take(bytes)) {
		n = n<<8 | uint32(b)
	}
	return n
}

// head reads what stands ahead of the records.
func (in *reader) head() head {
	// A text without a whole head is short, whatever it begins with.
	if len(in.text) < headBytes {
		panic(api.ErrShort)
	}
	if in.take(len(magic)) != magic {
		panic(api.ErrMagic)
	}
	h := head{
		from:   int(in.number(4)),
		to:     int(in.number(4)),
		blocks: int(in.number(2)),
		size:   int(in.number(2)),
		many:   int(in.number(2)),
	}
	if !h.wellMade() {
		panic(api.ErrHead)
	}
	return h
}

// records goes, once, through the records behind the head h, and reads on to the text's end behind the last of them. Where yield tells false it ends, and has read no further.
func (in *reader) records(h head) iter.Seq[api.Record] {
	return func(yield func(api.Record) bool) {
		last := -1
		for range h.many {
			r := in.record(h.size)
			if !h.follows(r.Block, last) {
				panic(api.ErrOrder)
			}
			last = r.Block
			if !yield(r) {
				return
			}
		}
		in.end()
	}
}

// record reads a record of any block. Its data is a copy, so that it does not keep the text.
func (in *reader) record(size int) api.Record {
	kind := in.number(1)
	if kind != written && kind != freed {
		panic(api.ErrKind)
	}
	r := api.Record{Free: kind == freed, Block: int(in.number(2))}
	if !r.Free {
		r.Data = strings.Clone(in.take(size))
	}
	return r
}

// end reads the check of all bytes ahead, behind which there may be nothing.
func (in *reader) end() {
	sum := check(in.text[:in.at])
	if in.number(4) != sum {
		panic(api.ErrSum)
	}
	if in.at < len(in.text) {
		panic(api.ErrRest)
	}
}

// readStream reads a stream's text whole.
func readStream(text string) api.Stream {
	in := &reader{text: text}
	h := in.head()
	records := slices.Collect(in.records(h))
	return api.Stream{From: h.from, To: h.to, Blocks: h.blocks, Size: h.size, Records: records}
}

// readSome reads a stream's text up to the records that are asked for, and no further if there are more.
func readSome(text string, from, many int) []api.Record {
	in := &reader{text: text}
	h := in.head()
	records := in.records(h)
	// Held against h.many one by one: the sum of the two may be more than an int can hold.
	if from < h.many && many < h.many-from {
		records = first(from+many, records)
	}
	return slices.Collect(behind(from, records))
}

// first goes through the first n records, and asks for no more than these.
func first(n int, records iter.Seq[api.Record]) iter.Seq[api.Record] {
	return func(yield func(api.Record) bool) {
		if n == 0 {
			return
		}
		told := 0
		for r := range records {
			told++
			if !yield(r) || told == n {
				return
			}
		}
	}
}

// behind goes through all records but the first n.
func behind(n int, records iter.Seq[api.Record]) iter.Seq[api.Record] {
	return func(yield func(api.Record) bool) {
		passed := 0
		for r := range records {
			if passed < n {
				passed++
				continue
			}
			if !yield(r) {
				return
			}
		}
	}
}
