package stream_test

import (
	"slices"
	"strings"
	"testing"

	"strand/api"
	"strand/stream"
)

// unsorted is an unsorted text with these records.
func unsorted(s api.Stream, records ...api.Record) string {
	return unsortedHead(s.From, s.To, s.Blocks, s.Size, len(records)) + recordsText(records)
}

// unsortedHead is the head of an unsorted text.
func unsortedHead(from, to, blocks, size, many int) string {
	return "STRU" + headText(from, to, blocks, size, many)[4:]
}

// askCanon holds what Canon answers against this text and error; what it answers Parse must read.
func askCanon(t *testing.T, text, want string, wantErr api.Errno) {
	t.Helper()
	got, e := stream.Canon(text)
	if e != wantErr || got != want {
		t.Fatalf("Canon(%.200q) = %.200q, %d, want %.200q, %d", text, got, e, want, wantErr)
	}
	if _, f := stream.Parse(got); e == api.OK && f != api.OK {
		t.Fatalf("Canon(%.200q) = %.200q, of which Parse tells %d", text, got, f)
	}
}

// P9: the example of DOC.md, byte by byte.
func TestCanonExample(t *testing.T) {
	text := "STRU" + "\x00\x00\x00\x01" + "\x00\x00\x00\x02" + "\x00\x04" + "\x00\x02" + "\x00\x03" + "\x02\x00\x03" + "\x01\x00\x00xx" + "\x01\x00\x00ab"
	askCanon(t, text, exampleText, api.OK)
}

// P9: what is sorted already, and turned round.
func TestCanonSorted(t *testing.T) {
	for _, p := range pairs() {
		askCanon(t, unsorted(p.s, p.s.Records...), p.text, api.OK)
		back := slices.Clone(p.s.Records)
		slices.Reverse(back)
		askCanon(t, unsorted(p.s, back...), p.text, api.OK)
		// All of them twice, and four times.
		if len(back) > 0 {
			askCanon(t, unsorted(p.s, slices.Concat(back, p.s.Records)...), p.text, api.OK)
			askCanon(t, unsorted(p.s, slices.Repeat(back, 4)...), p.text, api.OK)
		}
	}
}

// P9: of several records of one block the last counts, a Free one as well as a written one, wherever they stand.
func TestCanonLastCounts(t *testing.T) {
	w, f := wrote, freed
	for _, c := range []struct{ records, want []api.Record }{
		{[]api.Record{w(1, "a"), w(1, "b")}, []api.Record{w(1, "b")}},
		{[]api.Record{w(1, "b"), w(1, "a")}, []api.Record{w(1, "a")}},
		{[]api.Record{w(1, "a"), f(1)}, []api.Record{f(1)}},
		{[]api.Record{f(1), w(1, "a")}, []api.Record{w(1, "a")}},
		{[]api.Record{f(1), f(1)}, []api.Record{f(1)}},
		{[]api.Record{w(1, "a"), w(1, "a")}, []api.Record{w(1, "a")}},
		{[]api.Record{w(1, "a"), f(1), w(1, "c")}, []api.Record{w(1, "c")}},
		{[]api.Record{f(1), w(1, "b"), f(1)}, []api.Record{f(1)}},
		{[]api.Record{w(1, "a"), f(0), w(1, "b"), f(2), f(1), w(0, "z"), w(2, "c")}, []api.Record{w(0, "z"), f(1), w(2, "c")}},
		{[]api.Record{f(3), f(2), f(1), f(0), w(0, "a"), w(3, "d")}, []api.Record{w(0, "a"), f(1), f(2), w(3, "d")}},
		{[]api.Record{w(3, "d"), w(0, "a"), f(3), f(0)}, []api.Record{f(0), f(3)}},
		{[]api.Record{w(2, "z"), w(0, "y"), w(2, "a"), w(1, "x"), w(2, "m")}, []api.Record{w(0, "y"), w(1, "x"), w(2, "m")}},
		{[]api.Record{f(2)}, []api.Record{f(2)}},
		{nil, nil},
	} {
		p := made(1, 2, 4, 1, c.want...)
		askCanon(t, unsorted(p.s, c.records...), p.text, api.OK)
		// From 0 too: what is Free stays there.
		p = made(0, 9, 4, 1, c.want...)
		askCanon(t, unsorted(p.s, c.records...), p.text, api.OK)
	}
}

// lastOf is the last record of each block, in rising order.
func lastOf(records []api.Record, blocks int) (out []api.Record) {
	for b := range blocks {
		for _, r := range slices.Backward(records) {
			if r.Block == b {
				out = append(out, r)
				break
			}
		}
	}
	return out
}

// drawnRecords are n records of blocks in any order, drawn by dice.
func drawnRecords(d *dice, n, blocks, size int) (out []api.Record) {
	for range n {
		if d.below(3) == 0 {
			out = append(out, freed(d.below(blocks)))
		} else {
			out = append(out, wrote(d.below(blocks), strings.Repeat(string([]byte{byte(d.below(256))}), size)))
		}
	}
	return out
}

// P9: up to MaxRaw records, of few blocks and of many, and one more.
func TestCanonHowMany(t *testing.T) {
	d := dice(41)
	for _, blocks := range []int{1, 2, 4, 99, api.MaxBlocks} {
		for _, size := range []int{1, 5, api.MaxSize} {
			for _, n := range []int{0, 1, 2, blocks - 1, blocks, blocks + 1, 101, 255, 256, 257, 399, 400} {
				records := drawnRecords(&d, n, blocks, size)
				p := made(3, 4, blocks, size, lastOf(records, blocks)...)
				askCanon(t, unsorted(p.s, records...), p.text, api.OK)
			}
			for _, n := range []int{401, 402, 512, 1000} {
				records := drawnRecords(&d, n, blocks, size)
				text := unsorted(api.Stream{From: 3, To: 4, Blocks: blocks, Size: size}, records...)
				askCanon(t, text, "", api.ErrHead)
				askCanon(t, text[:18], "", api.ErrHead)
			}
			askCanon(t, unsortedHead(3, 4, blocks, size, 65535), "", api.ErrHead)
		}
	}
	// All of one block: the four hundredth counts.
	s := api.Stream{From: 1, To: 2, Blocks: 3, Size: 2}
	askCanon(t, unsorted(s, append(slices.Repeat([]api.Record{wrote(1, "xx")}, 399), wrote(1, "ab"))...), made(1, 2, 3, 2, wrote(1, "ab")).text, api.OK)
	askCanon(t, unsorted(s, append(slices.Repeat([]api.Record{wrote(1, "xx")}, 399), freed(1))...), made(1, 2, 3, 2, freed(1)).text, api.OK)
	askCanon(t, unsorted(s, append([]api.Record{freed(2)}, slices.Repeat([]api.Record{wrote(1, "xx")}, 399)...)...), made(1, 2, 3, 2, wrote(1, "xx"), freed(2)).text, api.OK)
}

// P9: no records: the text of a stream without any; and nothing may stand behind them.
func TestCanonNone(t *testing.T) {
	for _, h := range limitHeads {
		text := unsortedHead(h[0], h[1], h[2], h[3], 0)
		askCanon(t, text, made(h[0], h[1], h[2], h[3]).text, api.OK)
		askCanon(t, text+"\x00", "", api.ErrRest)
		askCanon(t, summed(text), "", api.ErrRest)
		askCanon(t, text+frees(0), "", api.ErrRest)
	}
}

// P9: a head that is not whole is short, whatever it begins with; then what it begins with; then the head.
func TestCanonHead(t *testing.T) {
	text := unsorted(exampleStream(), freed(3), wrote(0, "ab"))
	for n := range 18 {
		askCanon(t, text[:n], "", api.ErrShort)
		askCanon(t, strings.Repeat("x", n), "", api.ErrShort)
		askCanon(t, exampleText[:n], "", api.ErrShort)
	}
	for i := range 4 {
		for _, c := range []byte{0, 's', 'X', text[i] + 1, text[i] ^ 0x20, text[i] | 0x80} {
			b := []byte(text)
			b[i] = c
			askCanon(t, string(b), "", api.ErrMagic)
			askCanon(t, string(b[:18]), "", api.ErrMagic)
		}
	}
	bad := headText(1, 1, 0, 0, 401)[4:]
	for _, m := range []string{"STRC", "STRD", "stru", "\x00\x00\x00\x00"} {
		askCanon(t, m+text[4:], "", api.ErrMagic)
		askCanon(t, m+bad, "", api.ErrMagic)
	}
	for _, p := range pairs() {
		askCanon(t, p.text, "", api.ErrMagic)
	}
	for _, h := range badHeads {
		for _, many := range []int{0, 1, 400, 401} {
			head := unsortedHead(h[0], h[1], h[2], h[3], many)
			askCanon(t, head, "", api.ErrHead)
			askCanon(t, head[:17], "", api.ErrShort)
			askCanon(t, head+"\x03", "", api.ErrHead)
		}
	}
}

// P9: the records, one behind the other: the first thing that can't be read is told, then what stands behind them.
func TestCanonRecords(t *testing.T) {
	h := unsortedHead(1, 2, 4, 2, 2)
	for _, c := range []struct {
		rest string
		want api.Errno
	}{
		{"", api.ErrShort}, {"\x01", api.ErrShort}, {"\x01\x00", api.ErrShort}, {"\x01\x00\x00", api.ErrShort}, {"\x01\x00\x00a", api.ErrShort}, {"\x02", api.ErrShort}, {"\x02\x00", api.ErrShort}, {frees(0), api.ErrShort}, {frees(0) + "\x01\x00\x00a", api.ErrShort},
		{"\x00", api.ErrKind}, {"\x03", api.ErrKind}, {"\xff", api.ErrKind}, {"\x81\x00\x00", api.ErrKind}, {frees(0) + "\x00", api.ErrKind}, {writes(3, "ab") + "\x03", api.ErrKind},
		// The block is looked at behind the data.
		{writes(4, ""), api.ErrShort}, {writes(4, "a"), api.ErrShort}, {writes(4, "ab"), api.ErrOrder}, {frees(4), api.ErrOrder}, {writes(256, "ab"), api.ErrOrder}, {frees(65535), api.ErrOrder}, {frees(0) + frees(4), api.ErrOrder}, {frees(3) + writes(4, "ab"), api.ErrOrder}, {frees(3) + writes(4, "a"), api.ErrShort},
		// An earlier record is told ahead of a later one.
		{frees(4) + "\x00", api.ErrOrder}, {"\x00" + frees(4), api.ErrKind}, {frees(1) + "\x00" + frees(4), api.ErrKind}, {frees(4) + frees(1) + "x", api.ErrOrder}, {frees(4) + "\x01", api.ErrOrder},
		// Behind the records: nothing, not even a check.
		{frees(0) + frees(0) + "\x00", api.ErrRest}, {frees(0) + frees(1) + "abcd", api.ErrRest}, {frees(1) + frees(0) + frees(2), api.ErrRest}, {writes(1, "ab") + frees(0) + strings.Repeat("\x00", 10000), api.ErrRest}, {frees(1) + frees(0) + frees(4), api.ErrRest},
	} {
		askCanon(t, h+c.rest, "", c.want)
	}
	askCanon(t, summed(h+frees(1)+frees(0)), "", api.ErrRest)
	askCanon(t, h+frees(1)+frees(0), made(1, 2, 4, 2, freed(0), freed(1)).text, api.OK)
	// One block, of which each record is.
	askCanon(t, unsortedHead(1, 2, 1, 1, 2)+frees(0)+writes(1, "a"), "", api.ErrOrder)
	askCanon(t, unsortedHead(1, 2, 1, 1, 2)+frees(0)+writes(0, "a"), made(1, 2, 1, 1, wrote(0, "a")).text, api.OK)
}

// agreesCanon holds Canon against toldAs.
func agreesCanon(t *testing.T, text string) api.Errno {
	t.Helper()
	got, e := stream.Canon(text)
	if want := toldAs("STRU", text); e != want || (e == api.OK) == (got == "") {
		t.Fatalf("Canon(%q) = %q, %d, want %d", text, got, e, want)
	}
	if e == api.OK && (told(got) != api.OK || got[4:16] != text[4:16]) {
		t.Fatalf("Canon(%q) = %q", text, got)
	}
	return e
}

// P9: every byte of a text turned to every other, and the text cut everywhere.
func TestCanonEveryByte(t *testing.T) {
	for _, text := range []string{
		unsorted(exampleStream(), freed(3), wrote(0, "xx"), wrote(0, "ab")),
		unsorted(api.Stream{From: 0, To: 7, Blocks: 2, Size: 1}, wrote(1, "a"), wrote(0, "b"), freed(1), wrote(1, "c"), freed(0)),
		unsorted(api.Stream{From: 9, To: 7, Blocks: 100, Size: 64}),
	} {
		for i := range text {
			askCanon(t, text[:i], "", api.ErrShort)
			b := []byte(text)
			for c := range 256 {
				b[i] = byte(c)
				agreesCanon(t, string(b))
				agreesCanon(t, string(b)+"\x02")
			}
		}
	}
}

// P1 and P9: texts drawn by dice, with several faults or none.
func TestCanonManyFaults(t *testing.T) {
	d := dice(42)
	count := map[api.Errno]int{}
	for range 10000 {
		blocks, size := 1+d.below(12), 1+d.below(3)
		records := drawnRecords(&d, d.below(30), blocks, size)
		p := made(1+d.below(3), 5, blocks, size, lastOf(records, blocks)...)
		text := unsorted(p.s, records...)
		askCanon(t, text, p.text, api.OK)
		count[agreesCanon(t, bent(&d, []byte(text)))]++
	}
	for _, e := range []api.Errno{api.OK, api.ErrShort, api.ErrHead, api.ErrKind, api.ErrOrder, api.ErrRest} {
		if count[e] == 0 {
			t.Errorf("no text was answered with %d", e)
		}
	}
}

// P2: asked once more, the same comes out, and it is no piece of the text.
func TestCanonNothingKept(t *testing.T) {
	for _, p := range pairs() {
		text := unsorted(p.s, p.s.Records...)
		one, _ := stream.Canon(text)
		stream.Canon("STRU")
		stream.Canon(unsorted(exampleStream(), freed(1)))
		two, _ := stream.Canon(text)
		if one != p.text || two != p.text || lies(one, text) {
			t.Errorf("Canon = %q, once more %q", one, two)
		}
	}
}
