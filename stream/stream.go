// Package stream: streams in memory: see DOC.md.
package stream

import (
	"slices"

	"strand/api"
	"strand/wire"
)

// Parse reads a stream (P3).
func Parse(text string) (api.Stream, api.Errno) {
	return atFace(func() api.Stream { return readStream(text) })
}

// Serialize writes a stream (P4).
func Serialize(s api.Stream) (string, api.Errno) {
	if !wellMade(s) {
		return "", api.ErrStream
	}
	return write(s), api.OK
}

// Apply does what a stream says to a volume (P5).
func Apply(text string, v []api.Cell) ([]api.Cell, api.Errno) {
	s, e := Parse(text)
	if e != api.OK {
		return nil, e
	}
	if !isVolume(v, s.Blocks, s.Size) {
		return nil, api.ErrArg
	}
	return changed(v, slices.Values(s.Records)), api.OK
}

// Compose puts streams together (P6).
func Compose(texts []string) (string, api.Errno) {
	chain, e := readAll(texts, api.MaxChain, readStream)
	if e != api.OK {
		return "", e
	}
	if !linked(chain) {
		return "", api.ErrChain
	}
	return textOf(chain, latest(chain)), api.OK
}

// Squash puts streams together with a whole one (P6).
func Squash(texts []string) (string, api.Errno) {
	chain, e := readAll(texts, api.MaxChain, readStream)
	if e != api.OK {
		return "", e
	}
	if !whole(chain[0]) {
		return "", api.ErrWhole
	}
	if !linked(chain) {
		return "", api.ErrChain
	}
	return textOf(chain, held(latest(chain))), api.OK
}

// Split cuts a stream into chunks (P7).
func Split(text string, limit int) ([]string, api.Errno) {
	s, e := Parse(text)
	if e != api.OK {
		return nil, e
	}
	if bareBytes+longest(slices.Values(s.Records)) > limit {
		return nil, api.ErrLimit
	}
	return chunkTexts(wire.HeadOf(s), pieces(slices.Values(s.Records), limit)), api.OK
}

// Join puts chunks together (P8).
func Join(chunks []string) (string, api.Errno) {
	list, e := readAll(chunks, api.MaxBlocks, readChunk)
	if e != api.OK {
		return "", e
	}
	s, together := joined(list)
	if !together {
		return "", api.ErrChunk
	}
	return write(s), api.OK
}

// Canon sorts an unsorted text (P9).
func Canon(text string) (string, api.Errno) {
	s, e := atFace(func() api.Stream { return readUnsorted(text) })
	if e != api.OK {
		return "", e
	}
	return write(s), api.OK
}

// Some tells some of the records of a stream, and reads no further (P10).
func Some(text string, from int, many int) ([]api.Record, api.Errno) {
	if from < 0 || many < 0 {
		return nil, api.ErrArg
	}
	return atFace(func() []api.Record { return readSome(text, from, many) })
}
