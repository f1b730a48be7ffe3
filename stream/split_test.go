package stream_test

import (
	"math"
	"slices"
	"strings"
	"testing"

	"strand/api"
	"strand/stream"
)

// chunk is what a chunk's text tells; its text is made here by other means than the program's.
type chunk struct {
	from, to, blocks, size, many int
	number, chunks               int
	records                      []api.Record
}

func (c chunk) head() string {
	return "STRC" + headText(c.from, c.to, c.blocks, c.size, c.many)[4:] + two(c.number) + two(c.chunks) + two(len(c.records))
}

func (c chunk) text() string { return summed(c.head() + recordsText(c.records)) }

// chunkOf is a chunk of this stream.
func chunkOf(s api.Stream, number, chunks int, records ...api.Record) chunk {
	return chunk{s.From, s.To, s.Blocks, s.Size, len(s.Records), number, chunks, records}
}

// exampleChunkHead and exampleChunks are those of DOC.md's example, byte by byte.
const exampleChunkHead = "STRC" + "\x00\x00\x00\x01" + "\x00\x00\x00\x02" + "\x00\x04" + "\x00\x02" + "\x00\x02"

func exampleChunks() []string {
	return []string{
		summed(exampleChunkHead + "\x00\x00" + "\x00\x02" + "\x00\x01" + "\x01\x00\x00ab"),
		summed(exampleChunkHead + "\x00\x01" + "\x00\x02" + "\x00\x01" + "\x02\x00\x03"),
	}
}

// askSplit holds what Split answers against these texts and this error.
func askSplit(t *testing.T, text string, limit int, want []string, wantErr api.Errno) {
	t.Helper()
	got, e := stream.Split(text, limit)
	if e != wantErr || !slices.Equal(got, want) || e != api.OK && got != nil {
		t.Fatalf("Split(%.80q, %d) = %.400q, %d, want %.400q, %d", text, limit, got, e, want, wantErr)
	}
}

// P7: the example of DOC.md.
func TestSplitExample(t *testing.T) {
	whole := summed(exampleChunkHead + "\x00\x00" + "\x00\x01" + "\x00\x02" + "\x01\x00\x00ab" + "\x02\x00\x03")
	parts := exampleChunks()
	if len(parts[0]) != 33 || len(parts[1]) != 31 || len(whole) != 36 {
		t.Fatal("the chunks have not the bytes that the example tells")
	}
	for limit := 33; limit < 36; limit++ {
		askSplit(t, exampleText, limit, parts, api.OK)
	}
	askSplit(t, exampleText, 36, []string{whole}, api.OK)
	askSplit(t, exampleText, 37, []string{whole}, api.OK)
	askSplit(t, exampleText, 32, nil, api.ErrLimit)
}

// farBelow and farAbove are limits below all that a chunk needs, and above all that all records need.
var (
	farBelow = []int{0, -1, 1, 23, 24, 27, -100, math.MinInt32, math.MinInt64 / 2, math.MinInt + 1, math.MinInt}
	farAbove = []int{1 << 16, 1 << 20, math.MaxInt32, math.MaxInt32 + 1, 1 << 40, math.MaxInt - 40, math.MaxInt - 28, math.MaxInt - 1, math.MaxInt}
)

// P7: Parse's error is told ahead of ErrLimit, whatever the limit.
func TestSplitParseFirst(t *testing.T) {
	for want, bad := range faulty() {
		for _, limit := range slices.Concat(farBelow, farAbove, []int{28, 33, 36, 100}) {
			askSplit(t, bad, limit, nil, want)
		}
	}
	for n := range exampleText {
		askSplit(t, exampleText[:n], 0, nil, api.ErrShort)
		askSplit(t, exampleText[:n], 99, nil, api.ErrShort)
	}
	for _, text := range exampleChunks() {
		askSplit(t, text, 99, nil, api.ErrMagic)
	}
	askSplit(t, "STRU"+exampleText[4:], 99, nil, api.ErrMagic)
}

// P7: what the record needs that has most bytes, wherever it stands, is just enough; one byte less is too few.
func TestSplitLimit(t *testing.T) {
	for _, c := range []struct {
		p    pair
		need int
	}{
		{made(1, 2, 4, 5), 28},
		{made(1, 2, 4, 5, freed(0)), 31},
		{made(1, 2, 4, 5, freed(0), freed(1), freed(2), freed(3)), 31},
		{made(1, 2, 4, 5, wrote(0, "abcde")), 36},
		{made(1, 2, 4, 5, wrote(0, "abcde"), freed(1)), 36},
		{made(1, 2, 4, 5, freed(0), freed(1), wrote(2, "abcde")), 36},
		{made(1, 2, 4, 5, freed(0), wrote(1, "abcde"), freed(2)), 36},
		{made(1, 2, 4, 5, wrote(0, "abcde"), wrote(1, "abcde"), wrote(3, "abcde")), 36},
		{made(0, 1, 1, 1, wrote(0, "\x00")), 32},
		{made(0, 1, 1, 64, wrote(0, strings.Repeat("\x01", 64))), 95},
		{made(0, 1, 100, 64, freed(0), wrote(99, strings.Repeat("\x01", 64))), 95},
		{made(0, 1, 100, 64, freed(99)), 31},
	} {
		for limit := range c.need {
			askSplit(t, c.p.text, limit, nil, api.ErrLimit)
		}
		for _, limit := range farBelow {
			askSplit(t, c.p.text, limit, nil, api.ErrLimit)
		}
		askSplit(t, c.p.text, c.need, cut(c.p.s, c.need), api.OK)
		askSplit(t, c.p.text, c.need+1, cut(c.p.s, c.need+1), api.OK)
	}
}

// cut are the chunks' texts that P7 asks for, found by trying out how many records go in; the number of chunks stands in a field of its own, so that it does not matter for their bytes.
func cut(s api.Stream, limit int) []string {
	var lists [][]api.Record
	rest := s.Records
	for len(rest) > 0 || len(lists) == 0 {
		n := len(rest)
		for len(chunkOf(s, 0, 1, rest[:n]...).text()) > limit {
			n--
		}
		lists = append(lists, rest[:n])
		rest = rest[n:]
	}
	var texts []string
	for i, list := range lists {
		texts = append(texts, chunkOf(s, i, len(lists), list...).text())
	}
	return texts
}

// P7: each chunk has as many records as go into the limit, at every limit from just enough to more than all need.
func TestSplitAsManyAsGo(t *testing.T) {
	all := pairs()
	d := dice(21)
	for range 60 {
		all = append(all, drawn(&d)...)
	}
	for _, p := range all {
		need, step := 28, 1
		for _, r := range p.s.Records {
			need = max(need, 31+len(r.Data))
		}
		if len(p.text) > 1000 {
			step = 611
		}
		for limit := need; limit < len(p.text)+20; limit += step {
			askSplit(t, p.text, limit, cut(p.s, limit), api.OK)
		}
		for _, limit := range farAbove {
			askSplit(t, p.text, limit, []string{chunkOf(p.s, 0, 1, p.s.Records...).text()}, api.OK)
		}
	}
}

// P7: records of both kinds, where the limit lets some of them in: the numbers of the records written out.
func TestSplitWhichRecords(t *testing.T) {
	p := made(7, 8, 9, 4, wrote(0, "aaaa"), freed(1), freed(2), wrote(3, "dddd"), wrote(4, "eeee"), freed(5), freed(6), freed(7), wrote(8, "iiii"))
	for _, c := range []struct {
		limit int
		ends  []int
	}{
		{35, []int{1, 3, 4, 5, 7, 8, 9}}, {37, []int{1, 3, 4, 5, 8, 9}}, {38, []int{2, 4, 6, 8, 9}}, {40, []int{2, 4, 6, 8, 9}}, {41, []int{3, 4, 7, 9}}, {42, []int{3, 5, 8, 9}}, {48, []int{4, 8, 9}}, {63, []int{7, 9}}, {64, []int{8, 9}}, {70, []int{8, 9}}, {71, []int{9}},
	} {
		texts, e := stream.Split(p.text, c.limit)
		if e != api.OK {
			t.Fatalf("Split(.., %d): %d", c.limit, e)
		}
		var ends []int
		sum := 0
		for _, text := range texts {
			sum += int(text[22])<<8 + int(text[23])
			ends = append(ends, sum)
		}
		if !slices.Equal(ends, c.ends) {
			t.Errorf("Split(.., %d): the chunks end at the records %v, want %v", c.limit, ends, c.ends)
		}
	}
}

// P7: a stream without records has one chunk; one with MaxBlocks records up to as many.
func TestSplitHowMany(t *testing.T) {
	none := made(3, 2, 5, 6)
	for _, limit := range append([]int{28, 29, 40}, farAbove...) {
		askSplit(t, none.text, limit, []string{chunkOf(none.s, 0, 1).text()}, api.OK)
	}
	for _, p := range pairs() {
		need := 28
		for _, r := range p.s.Records {
			need = max(need, 31+len(r.Data))
		}
		texts, e := stream.Split(p.text, need)
		if e != api.OK || len(p.s.Records) == api.MaxBlocks && len(texts) != api.MaxBlocks || len(texts) > max(1, len(p.s.Records)) {
			t.Errorf("Split of %d records: %d chunks, %d", len(p.s.Records), len(texts), e)
		}
	}
}

// P2: the list that comes out is new memory, its spare room too, and nothing of it lies in the text or in another of its texts.
func TestSplitNewMemory(t *testing.T) {
	p := made(1, 2, 5, 1, wrote(0, "a"), freed(1), wrote(2, "c"), freed(3), wrote(4, "e"))
	for _, limit := range []int{32, 36, 38, 99} {
		one, _ := stream.Split(p.text, limit)
		two, _ := stream.Split(p.text, limit)
		want := cut(p.s, limit)
		_ = append(one, "z")
		spoil(one)
		if !slices.Equal(two, want) {
			t.Errorf("an answer has changed with another: %q", two)
		}
		askSplit(t, p.text, limit, want, api.OK)
		for i, text := range two {
			if lies(text, p.text) {
				t.Error("a chunk lies in the text that was handed in")
			}
			for j, other := range two {
				if i != j && lies(text, other) {
					t.Error("a chunk lies in another one")
				}
			}
		}
	}
}
