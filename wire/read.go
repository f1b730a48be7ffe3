package wire

import (
	"iter"
	"strings"

	"strand/api"
)

// Reader is bytes, of a text or of a file, and how many of them have been read. What it can't read it gives up by panic with the error's number: see Caught.
type Reader struct {
	bytes func(at, n int) string
	size  int
	at    int
	sum   sum
}

// Over reads what has so many bytes; the function tells n of them from a place on, and is asked for none that are not there.
func Over(size int, bytes func(at, n int) string) *Reader {
	return &Reader{bytes: bytes, size: size, sum: begun}
}

// OverText reads a text.
func OverText(text string) *Reader {
	return Over(len(text), func(at, n int) string { return text[at : at+n] })
}

// take reads the next n bytes.
func (in *Reader) take(n int) string {
	if n > in.size-in.at {
		panic(api.ErrShort)
	}
	text := in.bytes(in.at, n)
	in.at += n
	in.sum = in.sum.behind(text)
	return text
}

// Number reads a number of so many bytes.
func (in *Reader) Number(bytes int) uint32 { return number(in.take(bytes)) }

// number is the number that these bytes are, the highest first.
func number(text string) uint32 {
	n := uint32(0)
	for i := range len(text) {
		n = n<<8 | uint32(text[i])
	}
	return n
}

// Begin reads the first bytes of a text that has a head of so many bytes in all, up to how many records there are. Whether the head may be is still to be asked.
func (in *Reader) Begin(magic string, bytes int) Head {
	// A text without a whole head is short, whatever it begins with.
	if in.size < bytes {
		panic(api.ErrShort)
	}
	// Taken at once, so that it is one call of a file.
	text := OverText(in.take(HeadBytes))
	if text.take(len(magic)) != magic {
		panic(api.ErrMagic)
	}
	return Head{
		From:   int(text.Number(4)),
		To:     int(text.Number(4)),
		Blocks: int(text.Number(2)),
		Size:   int(text.Number(2)),
		Many:   int(text.Number(2)),
	}
}

// Head reads what stands ahead of a stream's records.
func (in *Reader) Head() Head {
	h := in.Begin(StreamMagic, HeadBytes)
	if !h.WellMade() {
		panic(api.ErrHead)
	}
	return h
}

// UnsortedHead reads what stands ahead of an unsorted text's records, of which there may be more than blocks.
func (in *Reader) UnsortedHead() Head {
	h := in.Begin(UnsortedMagic, HeadBytes)
	if !h.fits(api.MaxRaw) {
		panic(api.ErrHead)
	}
	return h
}

// Records goes, once, through the next n records, in rising order of their blocks, and reads on to the text's end behind the last of them. Where yield tells false it ends, and has read no further.
func (in *Reader) Records(h Head, n int) iter.Seq[api.Record] {
	return func(yield func(api.Record) bool) {
		last := -1
		for r := range in.loose(h, n) {
			if r.Block <= last {
				panic(api.ErrOrder)
			}
			last = r.Block
			if !yield(r) {
				return
			}
		}
		in.end()
	}
}

// Unsorted goes, once, through the records behind the head h, and asks behind the last of them that the text ends there. Where yield tells false it ends, and has read no further.
func (in *Reader) Unsorted(h Head) iter.Seq[api.Record] {
	return func(yield func(api.Record) bool) {
		for r := range in.loose(h, h.Many) {
			if !yield(r) {
				return
			}
		}
		in.nothing()
	}
}

// loose goes, once, through the next n records, in any order of their blocks. Where yield tells false it ends, and has read no further.
func (in *Reader) loose(h Head, n int) iter.Seq[api.Record] {
	return func(yield func(api.Record) bool) {
		for range n {
			r := in.record(h.Size)
			if r.Block >= h.Blocks {
				panic(api.ErrOrder)
			}
			if !yield(r) {
				return
			}
		}
	}
}

// Bare goes, once, through records with data of so many bytes that have neither head nor check, till the bytes end. Where yield tells false it ends, and has read no further.
func (in *Reader) Bare(size int) iter.Seq[api.Record] {
	return func(yield func(api.Record) bool) {
		for in.at < in.size {
			if !yield(in.record(size)) {
				return
			}
		}
	}
}

// record reads a record of any block. Its data is a copy, so that it does not keep the text.
func (in *Reader) record(size int) api.Record {
	switch in.Number(1) {
	case written:
		// Taken at once, so that it is one call of a file.
		rest := in.take(2 + size)
		return api.Record{Block: int(number(rest[:2])), Data: strings.Clone(rest[2:])}
	case freed:
		return api.Record{Free: true, Block: int(in.Number(2))}
	}
	panic(api.ErrKind)
}

// end reads the check of all bytes ahead, behind which there may be nothing.
func (in *Reader) end() {
	check := in.sum.check()
	if in.Number(CheckBytes) != check {
		panic(api.ErrSum)
	}
	in.nothing()
}

// nothing asks that no bytes are left.
func (in *Reader) nothing() {
	if in.at < in.size {
		panic(api.ErrRest)
	}
}
