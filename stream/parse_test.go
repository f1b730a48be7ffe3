package stream_test

import (
	"hash/crc32"
	"strings"
	"testing"

	"strand/api"
	"strand/stream"
)

// P3: what is read.
func TestParseReads(t *testing.T) {
	for _, p := range pairs() {
		if s, e := stream.Parse(p.text); e != api.OK || !sameStream(s, p.s) {
			t.Errorf("Parse(%.80q) = %#v, %d, want %#v", p.text, s, e, p.s)
		}
	}
}

const big = api.MaxId

// limitHeads are From, To, Blocks and Size at their limits; badHeads are such with one of them beyond.
var limitHeads = [][4]int{
	{0, 1, 1, 1}, {0, big, 1, 1}, {big, 1, 1, 1}, {big, big - 1, 1, 1}, {1, 2, 100, 1}, {1, 2, 1, 64}, {2, 1, 100, 64},
}

var badHeads = [][4]int{
	{big + 1, 1, 1, 1}, {1<<32 - 1, 1, 1, 1},
	{1, 0, 1, 1}, {1, big + 1, 1, 1}, {1, 1<<32 - 1, 1, 1},
	{0, 0, 1, 1}, {1, 1, 1, 1}, {big, big, 1, 1},
	{1, 2, 0, 1}, {1, 2, 101, 1}, {1, 2, 256, 1}, {1, 2, 65535, 1},
	{1, 2, 1, 0}, {1, 2, 1, 65}, {1, 2, 1, 256}, {1, 2, 1, 65535},
}

// P3: each limit of the head, and one beyond it.
func TestParseHeadLimits(t *testing.T) {
	for _, h := range limitHeads {
		want := api.Stream{From: h[0], To: h[1], Blocks: h[2], Size: h[3]}
		if s, e := stream.Parse(summed(headText(h[0], h[1], h[2], h[3], 0))); e != api.OK || !sameStream(s, want) {
			t.Errorf("Parse of the head %#v = %#v, %d", h, s, e)
		}
	}
	var texts []string
	for _, h := range badHeads {
		texts = append(texts, headText(h[0], h[1], h[2], h[3], 0))
	}
	for _, h := range [][2]int{{1, 2}, {99, 100}, {100, 101}, {100, 65535}} {
		texts = append(texts, headText(1, 2, h[0], 1, h[1]))
	}
	for _, text := range texts {
		refused(t, text, api.ErrHead)
		refused(t, summed(text), api.ErrHead)
		refused(t, text+"\x03", api.ErrHead)
	}
}

// P3: a head that is not whole is short, whatever it begins with; then what it begins with counts.
func TestParseMagic(t *testing.T) {
	for n := range 18 {
		refused(t, exampleText[:n], api.ErrShort)
		refused(t, strings.Repeat("x", n), api.ErrShort)
	}
	for i := range 4 {
		for _, c := range []byte{0, 's', 'X', exampleText[i] + 1, exampleText[i] ^ 0x20, exampleText[i] | 0x80} {
			b := []byte(exampleText)
			b[i] = c
			refused(t, string(b), api.ErrMagic)
			refused(t, string(b[:18]), api.ErrMagic)
		}
	}
	bad := headText(1, 1, 0, 0, 0)
	for _, m := range []string{"STRC", "STRU", "strd", "\x00\x00\x00\x00"} {
		refused(t, m+bad[4:], api.ErrMagic)
	}
}

// P3: the records, one behind the other: the first thing that can't be read is told.
func TestParseRecords(t *testing.T) {
	h := headText(1, 2, 4, 2, 2)
	for _, c := range []struct {
		rest string
		want api.Errno
	}{
		{"", api.ErrShort}, {"\x01", api.ErrShort}, {"\x01\x00", api.ErrShort}, {"\x01\x00\x00", api.ErrShort}, {"\x01\x00\x00a", api.ErrShort},
		{"\x02", api.ErrShort}, {"\x02\x00", api.ErrShort}, {frees(0), api.ErrShort},
		{"\x00", api.ErrKind}, {"\x03", api.ErrKind}, {"\xff", api.ErrKind}, {"\x81\x00\x00", api.ErrKind}, {"\x00\xff\xff", api.ErrKind},
		// The block is looked at behind the data.
		{writes(4, ""), api.ErrShort}, {writes(4, "a"), api.ErrShort}, {writes(4, "ab"), api.ErrOrder}, {frees(4), api.ErrOrder},
		{writes(256, "ab"), api.ErrOrder}, {frees(65535), api.ErrOrder}, {writes(3, "ab") + frees(3), api.ErrOrder},
		{frees(1) + frees(1), api.ErrOrder}, {frees(1) + frees(0), api.ErrOrder}, {frees(1) + writes(1, "ab"), api.ErrOrder}, {frees(1) + writes(1, "a"), api.ErrShort},
		// An earlier record is told ahead of a later one.
		{frees(4) + "\x00", api.ErrOrder}, {"\x00" + frees(4), api.ErrKind}, {frees(1) + "\x00" + frees(0), api.ErrKind},
		// Behind the records: the check, then nothing.
		{frees(0) + frees(1), api.ErrShort}, {frees(0) + frees(1) + "abc", api.ErrShort}, {frees(0) + frees(1) + "abcd", api.ErrSum}, {frees(0) + frees(1) + "abcde", api.ErrSum},
		{frees(0) + "\xb8abc", api.ErrKind}, {frees(0) + frees(1) + frees(2), api.ErrShort}, {frees(0) + frees(1) + frees(2) + "a", api.ErrSum},
	} {
		refused(t, h+c.rest, c.want)
	}
}

// P3: a text that ends anywhere is short.
func TestParseEndsAnywhere(t *testing.T) {
	for _, p := range pairs() {
		for n := range len(p.text) {
			if _, e := stream.Parse(p.text[:n]); e != api.ErrShort {
				t.Fatalf("Parse(%.80q), the first %d bytes: %d, want %d", p.text, n, e, api.ErrShort)
			}
		}
	}
}

// P3: bytes left behind the check.
func TestParseRest(t *testing.T) {
	for _, p := range pairs() {
		for _, rest := range []string{"\x00", "x", exampleText, four(0), strings.Repeat("\x00", 10000)} {
			refused(t, p.text+rest, api.ErrRest)
		}
		refused(t, summed(p.text), api.ErrRest)
	}
}

// P3: the check is of all bytes ahead, each of its own bits counts, and it is told ahead of bytes that are left.
func TestParseCheck(t *testing.T) {
	for bit := range 32 {
		b := []byte(exampleText)
		b[26+bit/8] ^= 1 << (bit % 8)
		refused(t, string(b), api.ErrSum)
		refused(t, string(b)+"x", api.ErrSum)
	}
	b := []byte(exampleText)
	b[21] ^= 1
	refused(t, string(b), api.ErrSum)
	b = []byte(exampleText)
	b[7] = 9
	refused(t, string(b), api.ErrSum)
	refused(t, exampleText[:26]+four(int(crc32.Checksum([]byte(exampleText[:26]), crc32.MakeTable(crc32.Castagnoli)))), api.ErrSum)
	refused(t, exampleText[:26]+"\x00\x00\x00\x00", api.ErrSum)
	low := []byte(exampleText)
	low[26], low[27], low[28], low[29] = low[29], low[28], low[27], low[26]
	refused(t, string(low), api.ErrSum)
}

// told is what P3 says of a text, found by another way: all that could be wrong, by its place.
func told(text string) api.Errno { return toldAs("STRD", text) }

// toldAs is what P3, P8 or P9 says of the text of a stream, of a chunk, or of an unsorted one: by what it must begin with.
func toldAs(magic, text string) api.Errno {
	place := 18
	if magic == "STRC" {
		place = 24
	}
	if len(text) < place {
		return api.ErrShort
	}
	if text[:4] != magic {
		return api.ErrMagic
	}
	at := func(i, n int) (x int) {
		for _, c := range []byte(text[i : i+n]) {
			x = x*256 + int(c)
		}
		return x
	}
	from, to, blocks, size, many := at(4, 4), at(8, 4), at(12, 2), at(14, 2), at(16, 2)
	if from > api.MaxId || to > api.MaxId || to == 0 || from == to || blocks == 0 || blocks > 100 || size == 0 || size > 64 {
		return api.ErrHead
	}
	most := blocks
	if magic == "STRU" {
		most = 400
	}
	if many > most || magic == "STRC" && (at(18, 2) >= at(20, 2) || at(22, 2) > many) {
		return api.ErrHead
	}
	if magic == "STRC" {
		many = at(22, 2)
	}
	least := 0
	for ; many > 0; many-- {
		if place == len(text) {
			return api.ErrShort
		}
		next := place + 3
		switch text[place] {
		case 1:
			next += size
		case 2:
		default:
			return api.ErrKind
		}
		if next > len(text) {
			return api.ErrShort
		}
		if b := at(place+1, 2); b < least || b >= blocks {
			return api.ErrOrder
		} else if magic != "STRU" {
			least = b + 1
		}
		place = next
	}
	switch {
	case magic == "STRU" && place < len(text):
		return api.ErrRest
	case magic == "STRU":
		return api.OK
	case place+4 > len(text):
		return api.ErrShort
	case summed(text[:place]) != text[:place+4]:
		return api.ErrSum
	case place+4 < len(text):
		return api.ErrRest
	}
	return api.OK
}

// agrees holds Parse against told; a text that is read must be the text of what is read.
func agrees(t *testing.T, text string) api.Errno {
	t.Helper()
	s, e := stream.Parse(text)
	if want := told(text); e != want {
		t.Fatalf("Parse(%q) = %#v, %d, want %d", text, s, e, want)
	}
	if e != api.OK {
		if !sameStream(s, api.Stream{}) {
			t.Fatalf("Parse(%q): %#v beside the error %d", text, s, e)
		}
		return e
	}
	if again, e := stream.Serialize(s); e != api.OK || again != text {
		t.Fatalf("Serialize(Parse(%q)) = %q, %d", text, again, e)
	}
	return api.OK
}

// P3: every byte of a text, turned to every other, with the check as it was and with the right one.
func TestParseEveryByte(t *testing.T) {
	for _, p := range pairs() {
		if len(p.text) > 100 {
			continue
		}
		for i := range p.text {
			b := []byte(p.text)
			for c := range 256 {
				b[i] = byte(c)
				agrees(t, string(b))
				agrees(t, summed(string(b[:len(b)-4])))
			}
		}
	}
}

// bent is the text b with a byte turned here and there behind the first four; cut, longer, or with the right check.
func bent(d *dice, b []byte) string {
	for range d.below(3) {
		b[4+d.below(len(b)-4)] = byte(d.below(6))
	}
	switch d.below(4) {
	case 0:
		b = b[:d.below(len(b)+1)]
	case 1:
		b = append(b, byte(d.below(4)))
	case 2:
		return summed(string(b[:len(b)-4]))
	}
	return string(b)
}

// P3: texts with several faults, cut, lengthened and turned at many places.
func TestParseManyFaults(t *testing.T) {
	d := dice(1)
	all := pairs()
	count := map[api.Errno]int{}
	for range 40000 {
		b := []byte(all[d.below(len(all))].text)
		if len(b) > 300 {
			b = b[:100+d.below(200)]
		}
		count[agrees(t, bent(&d, b))]++
	}
	for _, e := range []api.Errno{api.OK, api.ErrShort, api.ErrHead, api.ErrKind, api.ErrOrder, api.ErrSum, api.ErrRest} {
		if count[e] == 0 {
			t.Errorf("no text was answered with %d", e)
		}
	}
}
