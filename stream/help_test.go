package stream_test

import (
	"encoding/binary"
	"hash/crc32"
	"slices"
	"strings"
	"testing"

	"strand/api"
	"strand/stream"
)

// two and four are numbers of two and four bytes.
func two(n int) string  { return string(binary.BigEndian.AppendUint16(nil, uint16(n))) }
func four(n int) string { return string(binary.BigEndian.AppendUint32(nil, uint32(n))) }

// summed is a text with its check behind it.
func summed(text string) string { return text + four(int(crc32.ChecksumIEEE([]byte(text)))) }

// headText is the head of a stream's text.
func headText(from, to, blocks, size, many int) string {
	return "STRD" + four(from) + four(to) + two(blocks) + two(size) + two(many)
}

// writes and frees are the texts of records.
func writes(block int, data string) string { return "\x01" + two(block) + data }
func frees(block int) string               { return "\x02" + two(block) }

// wrote and freed are records.
func wrote(block int, data string) api.Record { return api.Record{Block: block, Data: data} }
func freed(block int) api.Record              { return api.Record{Free: true, Block: block} }

// held is a block that is held.
func held(data string) api.Cell { return api.Cell{Held: true, Data: data} }

// exampleCheck is written out, so that not both sides lean on one way to reckon it.
const exampleCheck = "\x04\xb3\x46\xfe"

// exampleText and exampleStream are the example of DOC.md, byte by byte.
const exampleText = "STRD" + "\x00\x00\x00\x01" + "\x00\x00\x00\x02" + "\x00\x04" + "\x00\x02" + "\x00\x02" +
	"\x01\x00\x00ab" + "\x02\x00\x03" + exampleCheck

func exampleStream() api.Stream {
	return api.Stream{From: 1, To: 2, Blocks: 4, Size: 2, Records: []api.Record{wrote(0, "ab"), freed(3)}}
}

// pair is a stream and its text, which is made here by other means than the program's.
type pair struct {
	s    api.Stream
	text string
}

func made(from, to, blocks, size int, records ...api.Record) pair {
	text := headText(from, to, blocks, size, len(records)) + recordsText(records)
	return pair{api.Stream{From: from, To: to, Blocks: blocks, Size: size, Records: records}, summed(text)}
}

// recordsText is the text of records, one behind the other.
func recordsText(records []api.Record) (text string) {
	for _, r := range records {
		if r.Free {
			text += frees(r.Block)
		} else {
			text += writes(r.Block, r.Data)
		}
	}
	return text
}

// pairs are ordinary streams, and such at the limits.
func pairs() []pair {
	var full, empty []api.Record
	for i := range api.MaxBlocks {
		full = append(full, wrote(i, strings.Repeat(string([]byte{byte(255 - i)}), api.MaxSize)))
		empty = append(empty, freed(i))
	}
	return []pair{
		{exampleStream(), exampleText},
		made(0, 1, 1, 1),
		made(0, 1, 1, 1, wrote(0, "\x00")),
		made(0, 1, 1, 1, freed(0)),
		made(0, api.MaxId, api.MaxBlocks, api.MaxSize, full...),
		made(api.MaxId, 1, api.MaxBlocks, api.MaxSize, empty...),
		made(api.MaxId-1, api.MaxId, api.MaxBlocks, 1, wrote(99, "\xff")),
		made(0x01020304, 0x05060708, 50, 3, freed(7), wrote(8, "\x01\x02\x03"), freed(49)),
		made(5, 3, 9, 1, wrote(0, "a"), freed(2), wrote(3, "b"), freed(8)),
		made(2, 1, 2, 4, wrote(0, "STRD"), wrote(1, "\x02\x00\x01\x00")),
	}
}

// sameStream tells whether two streams are the same; no records may be nil or not.
func sameStream(a, b api.Stream) bool {
	return a.From == b.From && a.To == b.To && a.Blocks == b.Blocks && a.Size == b.Size && slices.Equal(a.Records, b.Records)
}

// refused asks of Parse this error, and zeros beside it.
func refused(t *testing.T, text string, want api.Errno) {
	t.Helper()
	s, e := stream.Parse(text)
	if e != want || !sameStream(s, api.Stream{}) || s.Records != nil {
		t.Errorf("Parse(%.80q) = %v, %d, want zeros, %d", text, s, e, want)
	}
}

// dice is a row of numbers that look like chance, the same in every run.
type dice uint64

func (d *dice) below(n int) int {
	*d = *d*6364136223846793005 + 1442695040888963407
	return int(uint64(*d)>>33) % n
}
