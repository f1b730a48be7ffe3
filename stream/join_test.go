package stream_test

import (
	"slices"
	"strings"
	"testing"

	"strand/api"
	"strand/stream"
)

var join = call{"Join", stream.Join}

// mustSplit are the chunks that Split answers, which must be OK.
func mustSplit(t *testing.T, text string, limit int) []string {
	t.Helper()
	texts, e := stream.Split(text, limit)
	if e != api.OK {
		t.Fatalf("Split(%.80q, %d): %d", text, limit, e)
	}
	return texts
}

// shuffled is the list in an order drawn by dice.
func shuffled(d *dice, list []string) []string {
	list = slices.Clone(list)
	for i := len(list) - 1; i > 0; i-- {
		j := d.below(i + 1)
		list[i], list[j] = list[j], list[i]
	}
	return list
}

// P8: the example of DOC.md, in both orders and as one chunk.
func TestJoinExample(t *testing.T) {
	l := exampleChunks()
	join.ask(t, l, exampleText, api.OK)
	join.ask(t, []string{l[1], l[0]}, exampleText, api.OK)
	join.ask(t, []string{chunkOf(exampleStream(), 0, 1, exampleStream().Records...).text()}, exampleText, api.OK)
}

// five is a stream of five records.
func five() api.Stream {
	return made(5, 3, 9, 2, wrote(0, "aa"), freed(2), wrote(3, "bb"), freed(4), wrote(8, "cc")).s
}

// quarters are four chunks of five, one of them without records.
func quarters() []chunk {
	s := five()
	return []chunk{chunkOf(s, 0, 4, s.Records[:2]...), chunkOf(s, 1, 4), chunkOf(s, 2, 4, s.Records[2]), chunkOf(s, 3, 4, s.Records[3:]...)}
}

// chunkTexts are the texts of chunks.
func chunkTexts(list []chunk) (texts []string) {
	for _, c := range list {
		texts = append(texts, c.text())
	}
	return texts
}

// orders are all orders of a list.
func orders(list []string) (all [][]string) {
	if len(list) == 0 {
		return [][]string{nil}
	}
	for i := range list {
		for _, rest := range orders(slices.Concat(list[:i], list[i+1:])) {
			all = append(all, append([]string{list[i]}, rest...))
		}
	}
	return all
}

// P8: the order of the list does not matter, neither where the chunks go together nor where they don't.
func TestJoinAnyOrder(t *testing.T) {
	want := made(5, 3, 9, 2, five().Records...).text
	good := chunkTexts(quarters())
	all := orders(good)
	if len(all) != 24 {
		t.Fatal(len(all))
	}
	for _, list := range all {
		join.ask(t, list, want, api.OK)
	}
	for _, list := range orders(good[:3]) {
		join.refuses(t, api.ErrChunk, list...)
	}
	for _, list := range orders(append(good[:3:3], good[0])) {
		join.refuses(t, api.ErrChunk, list...)
	}
}

// P8 and P14: the chunks of any stream, at any limit and in any order, are the stream again.
func TestJoinSplit(t *testing.T) {
	d := dice(31)
	all := pairs()
	for range 300 {
		all = append(all, drawn(&d)...)
	}
	for _, p := range all {
		least := 31 + p.s.Size
		for _, limit := range []int{least, least + 1, least + 3, least + d.below(40), least + d.below(400), 1 << 20} {
			texts := mustSplit(t, p.text, limit)
			join.ask(t, texts, p.text, api.OK)
			slices.Reverse(texts)
			join.ask(t, texts, p.text, api.OK)
			for range 3 {
				join.ask(t, shuffled(&d, texts), p.text, api.OK)
			}
		}
	}
}

// P8: chunks need not be cut as Split cuts them: with few records, with none, and none of them at all.
func TestJoinOtherCuts(t *testing.T) {
	d := dice(32)
	for range 500 {
		for _, p := range drawn(&d) {
			n := 1 + d.below(12)
			var list []chunk
			rest := p.s.Records
			for i := range n {
				many := d.below(len(rest) + 1)
				if i == n-1 {
					many = len(rest)
				}
				list = append(list, chunkOf(p.s, i, n, rest[:many]...))
				rest = rest[many:]
			}
			join.ask(t, shuffled(&d, chunkTexts(list)), p.text, api.OK)
		}
	}
}

// single is a stream's MaxBlocks chunks of a record each.
func single() (texts []string, whole string) {
	var records []api.Record
	for b := range api.MaxBlocks {
		records = append(records, wrote(b, string([]byte{byte(b)})))
	}
	p := made(1, 2, api.MaxBlocks, 1, records...)
	for i, r := range records {
		texts = append(texts, chunkOf(p.s, i, api.MaxBlocks, r).text())
	}
	return texts, p.text
}

// P8: no chunks, MaxBlocks of them, and one more, whatever they are.
func TestJoinCount(t *testing.T) {
	join.refuses(t, api.ErrArg)
	join.refuses(t, api.ErrArg, []string{}...)
	texts, whole := single()
	join.refuses(t, api.ErrArg, texts[:0]...)
	join.ask(t, texts, whole, api.OK)
	d := dice(33)
	join.ask(t, shuffled(&d, texts), whole, api.OK)
	slices.Reverse(texts)
	join.ask(t, texts, whole, api.OK)
	join.refuses(t, api.ErrChunk, texts[1:]...)
	join.refuses(t, api.ErrArg, append(slices.Clone(texts), texts[0])...)
	join.refuses(t, api.ErrArg, make([]string, api.MaxBlocks+1)...)
	join.refuses(t, api.ErrArg, make([]string, 100000)...)
	join.refuses(t, api.ErrShort, make([]string, api.MaxBlocks)...)

	// So many chunks that all is right with them but for their number.
	s := made(1, 2, 4, 1).s
	var empty []chunk
	for i := range api.MaxBlocks + 1 {
		empty = append(empty, chunkOf(s, i, api.MaxBlocks+1))
	}
	join.refuses(t, api.ErrArg, chunkTexts(empty)...)
	empty = empty[:api.MaxBlocks]
	join.refuses(t, api.ErrChunk, chunkTexts(empty)...)
	for i := range empty {
		empty[i].chunks = api.MaxBlocks
	}
	join.ask(t, chunkTexts(empty), made(1, 2, 4, 1).text, api.OK)
}

// faultyChunks are chunks of which each has an error of its own; many for each error.
func faultyChunks() map[api.Errno][]string {
	c := quarters()[0]
	text := c.text()
	with := func(change func(c *chunk)) string {
		c := quarters()[0]
		change(&c)
		return c.text()
	}
	h := c.head()
	return map[api.Errno][]string{
		api.ErrShort: {"", "STRC", text[:18], text[:22], text[:23], "xxxx" + text[4:23], text[:24], text[:25], text[:26], text[:28], text[:29], text[:31], text[:32], text[:33], text[:len(text)-1], h + writes(9, "a")},
		api.ErrMagic: {exampleText, "STRD" + text[4:], "STRU" + text[4:], "STRc" + text[4:], "strc" + text[4:], strings.Repeat("\x00", 24), "STRD" + text[4:24], "\x00TRC" + summed(chunk{}.head())[4:]},
		api.ErrHead: {
			with(func(c *chunk) { c.number = 4 }), with(func(c *chunk) { c.number = 5 }), with(func(c *chunk) { c.number = 65535 }), with(func(c *chunk) { c.number, c.chunks = 0, 0 }), with(func(c *chunk) { c.number, c.chunks = 65535, 65535 }),
			with(func(c *chunk) { c.many = 1 }), with(func(c *chunk) { c.many = 0 }), with(func(c *chunk) { c.many = 10 }), with(func(c *chunk) { c.many = 65535 }),
			with(func(c *chunk) { c.to = c.from }), with(func(c *chunk) { c.to = 0 }), with(func(c *chunk) { c.blocks = 0 }), with(func(c *chunk) { c.blocks = 101 }), with(func(c *chunk) { c.size = 0 }), with(func(c *chunk) { c.size = 65 }),
			with(func(c *chunk) { c.number = 4 })[:24], with(func(c *chunk) { c.blocks, c.many = 4, 5 }),
		},
		api.ErrKind:  {h + "\x00", h + "\x03", h + "\xff\x00\x00", h + writes(0, "aa") + "\x00", h + frees(0) + "\x03\x00\x00", summed(h + "\x00")},
		api.ErrOrder: {h + frees(9), h + writes(9, "aa"), h + frees(256), h + frees(65535), h + frees(2) + frees(2), h + writes(2, "aa") + frees(2), h + frees(2) + writes(1, "aa"), h + frees(9) + "\x00", summed(h + frees(2) + frees(1))},
		api.ErrSum:   {text[:len(text)-4] + "abcd", text[:len(text)-4] + "abcde", text[:len(text)-1] + "\x00"},
		api.ErrRest:  {text + "\x00", text + "x", summed(text), text + text, text + strings.Repeat("\x00", 10000)},
	}
}

// P8: each error of a chunk that can't be read, at each place of the list, ahead of ErrChunk.
func TestJoinReadsFirst(t *testing.T) {
	good := chunkTexts(quarters())
	for want, list := range faultyChunks() {
		for _, bad := range list {
			join.refuses(t, want, bad)
			join.refuses(t, want, bad, bad)
			for i := range good {
				texts := slices.Clone(good)
				texts[i] = bad
				join.refuses(t, want, texts...)
			}
			// Two chunks of one number, one of another stream, and too many of them.
			join.refuses(t, want, good[0], good[0], bad)
			join.refuses(t, want, bad, good[0], exampleChunks()[1])
			join.refuses(t, want, append(slices.Clone(good), good[0], bad)...)
		}
	}
}

// P8: of several chunks that can't be read the first of the list is told, whatever their numbers.
func TestJoinFirstFault(t *testing.T) {
	good := chunkTexts(quarters())
	for one, list := range faultyChunks() {
		for two, other := range faultyChunks() {
			a, b := list[0], other[len(other)/2]
			join.refuses(t, one, a, b)
			join.refuses(t, two, b, a)
			join.refuses(t, one, good[3], a, good[0], b)
			join.refuses(t, two, good[0], good[0], b, a)
		}
	}
}

// P8: each limit of a chunk's head, and one beyond it.
func TestJoinHeadLimits(t *testing.T) {
	for _, h := range limitHeads {
		join.ask(t, []string{chunk{h[0], h[1], h[2], h[3], 0, 0, 1, nil}.text()}, made(h[0], h[1], h[2], h[3]).text, api.OK)
		join.refuses(t, api.ErrChunk, chunk{h[0], h[1], h[2], h[3], 1, 0, 1, nil}.text())
		join.refuses(t, api.ErrHead, chunk{h[0], h[1], h[2], h[3], h[2] + 1, 0, 1, nil}.text())
	}
	for _, h := range badHeads {
		bad := chunk{h[0], h[1], h[2], h[3], 0, 0, 1, nil}
		join.refuses(t, api.ErrHead, bad.text())
		join.refuses(t, api.ErrHead, bad.head())
		join.refuses(t, api.ErrShort, bad.head()[:23])
		join.refuses(t, api.ErrHead, bad.head()+"\x03")
	}
	for _, n := range [][2]int{{0, 0}, {1, 1}, {2, 1}, {65535, 1}, {65535, 65535}, {256, 255}, {255, 255}} {
		join.refuses(t, api.ErrHead, chunk{1, 2, 3, 4, 0, n[0], n[1], nil}.text())
	}
	// Numbers that may be, but of more chunks than there are here.
	for _, n := range [][2]int{{0, 2}, {1, 2}, {99, 100}, {100, 101}, {255, 256}, {0, 65535}, {65534, 65535}} {
		join.refuses(t, api.ErrChunk, chunk{1, 2, 3, 4, 0, n[0], n[1], nil}.text())
	}
}

// P8: each cause of ErrChunk by itself, at each of the chunks.
func TestJoinCauses(t *testing.T) {
	change := func(at int, do func(c *chunk)) []string {
		list := quarters()
		do(&list[at])
		return chunkTexts(list)
	}
	for at := range 4 {
		for _, do := range []func(c *chunk){
			func(c *chunk) { c.from++ }, func(c *chunk) { c.from = 0 }, func(c *chunk) { c.to++ }, func(c *chunk) { c.to = api.MaxId },
			func(c *chunk) { c.blocks++ }, func(c *chunk) { c.blocks = 100 }, func(c *chunk) { c.many++ }, func(c *chunk) { c.many-- },
			func(c *chunk) { c.chunks++ }, func(c *chunk) { c.chunks = 65535 }, func(c *chunk) { c.number = (c.number + 1) % 4 }, func(c *chunk) { c.number = (c.number + 3) % 4 },
		} {
			join.refuses(t, api.ErrChunk, change(at, do)...)
		}
		// Another Size: of a chunk whose records have no data.
		join.refuses(t, api.ErrChunk, change(at, func(c *chunk) { c.size, c.records = 3, nil })...)
		// Too few chunks, and too many.
		good := chunkTexts(quarters())
		join.refuses(t, api.ErrChunk, slices.Delete(slices.Clone(good), at, at+1)...)
		join.refuses(t, api.ErrChunk, slices.Insert(slices.Clone(good), at, good[at])...)
		join.refuses(t, api.ErrChunk, slices.Insert(slices.Clone(good), at, good[3])...)
		join.refuses(t, api.ErrChunk, good[at])
		// A number twice, and another one missing.
		for other := range 4 {
			if other != at {
				twice := slices.Clone(good)
				twice[other] = twice[at]
				join.refuses(t, api.ErrChunk, twice...)
			}
		}
	}
	join.ask(t, change(0, func(c *chunk) {}), made(5, 3, 9, 2, five().Records...).text, api.OK)
}

// P8: another Size alone, where no chunk has data and where all have.
func TestJoinOtherSize(t *testing.T) {
	s := made(1, 2, 4, 2, freed(0), freed(3)).s
	a, b := chunkOf(s, 0, 2, freed(0)), chunkOf(s, 1, 2, freed(3))
	join.ask(t, chunkTexts([]chunk{a, b}), made(1, 2, 4, 2, freed(0), freed(3)).text, api.OK)
	b.size = 3
	join.refuses(t, api.ErrChunk, chunkTexts([]chunk{a, b})...)
	join.refuses(t, api.ErrChunk, chunkTexts([]chunk{b, a})...)
	a.records, b.records = []api.Record{wrote(0, "ab")}, []api.Record{wrote(3, "abc")}
	join.refuses(t, api.ErrChunk, chunkTexts([]chunk{a, b})...)
}

// P8: all chunks say of how many there are the same, but it is not how many there are.
func TestJoinNotSoMany(t *testing.T) {
	for _, n := range []int{1, 2, 3, 5, 6, 99, 100, 101, 65535} {
		list := quarters()
		for i := range list {
			list[i].chunks = n
			list[i].number = min(i, n-1)
		}
		join.refuses(t, api.ErrChunk, chunkTexts(list)...)
	}
	list := quarters()
	for i := range list {
		list[i].number = 0
	}
	join.refuses(t, api.ErrChunk, chunkTexts(list)...)
}

// P8: records that do not rise from one chunk to the next, or are not as many as there should be.
func TestJoinRecords(t *testing.T) {
	ask := func(want api.Errno, many int, lists ...[]api.Record) {
		t.Helper()
		var list []chunk
		for i, records := range lists {
			list = append(list, chunk{1, 2, 9, 1, many, i, len(lists), records})
		}
		for _, texts := range orders(chunkTexts(list)) {
			if want == api.OK {
				join.ask(t, texts, made(1, 2, 9, 1, slices.Concat(lists...)...).text, api.OK)
			} else {
				join.refuses(t, want, texts...)
			}
		}
	}
	r := func(blocks ...int) (out []api.Record) {
		for _, b := range blocks {
			if b%2 == 0 {
				out = append(out, freed(b))
			} else {
				out = append(out, wrote(b, "a"))
			}
		}
		return out
	}
	ask(api.OK, 4, r(0, 1), r(2, 8))
	ask(api.OK, 3, r(0), r(1), r(8))
	ask(api.OK, 1, r(), r(8), r())
	ask(api.OK, 0, r(), r())
	// The next chunk begins with the block of the last, or with one ahead of it; there may be one without records between.
	ask(api.ErrChunk, 4, r(0, 1), r(1, 8))
	ask(api.ErrChunk, 4, r(0, 2), r(1, 8))
	ask(api.ErrChunk, 4, r(2, 8), r(0, 1))
	ask(api.ErrChunk, 2, r(3), r(3))
	ask(api.ErrChunk, 2, r(3), r(), r(3))
	ask(api.ErrChunk, 2, r(3), r(), r(0))
	ask(api.ErrChunk, 3, r(1), r(0), r(2))
	ask(api.ErrChunk, 3, r(0), r(2), r(1))
	ask(api.ErrChunk, 6, r(0, 4), r(5, 8), r(6, 7))
	// Too few or too many in all.
	ask(api.ErrChunk, 5, r(0, 1), r(2, 8))
	ask(api.ErrChunk, 3, r(0, 1), r(2, 8))
	ask(api.ErrChunk, 9, r(0, 1), r(2, 8))
	ask(api.ErrChunk, 2, r(0, 1), r(2))
	ask(api.ErrChunk, 2, r(0, 1), r(2, 8))
	ask(api.ErrChunk, 1, r(), r(), r())
	ask(api.ErrChunk, 1, r(0), r(1))
	ask(api.ErrChunk, 9, r(0, 1, 2, 3, 4, 5, 6, 7, 8), r(0, 1, 2, 3, 4, 5, 6, 7, 8))
}

// toldOfChunks is what P8 says of a list, found by another way than the program's.
func toldOfChunks(texts []string) api.Errno {
	if len(texts) == 0 || len(texts) > 100 {
		return api.ErrArg
	}
	for _, text := range texts {
		if e := toldAs("STRC", text); e != api.OK {
			return e
		}
	}
	byNumber := map[string]string{}
	for _, text := range texts {
		if text[4:18] != texts[0][4:18] || text[20:22] != two(len(texts)) {
			return api.ErrChunk
		}
		byNumber[text[18:20]] = text[24 : len(text)-4]
	}
	whole := "STRD" + texts[0][4:18]
	for i := range texts {
		records, there := byNumber[two(i)]
		if !there {
			return api.ErrChunk
		}
		whole += records
	}
	// Too few records, too many or any of them out of order: then it is no stream's text.
	if told(summed(whole)) != api.OK {
		return api.ErrChunk
	}
	return api.OK
}

// agreesJoin holds Join against toldOfChunks; what it answers must be the text of a stream with the records of the chunks.
func agreesJoin(t *testing.T, texts []string) api.Errno {
	t.Helper()
	got, e := stream.Join(texts)
	if want := toldOfChunks(texts); e != want || (e == api.OK) == (got == "") {
		t.Fatalf("Join(%.600q) = %q, %d, want %d", texts, got, e, want)
	}
	if e == api.OK && told(got) != api.OK {
		t.Fatalf("Join(%.600q) = %q, which can't be read", texts, got)
	}
	return e
}

// P8: every byte of a chunk, turned to every other, with the check as it was and with the right one; alone and beside another.
func TestJoinEveryByte(t *testing.T) {
	lists := [][]string{exampleChunks(), {chunkOf(exampleStream(), 0, 1, exampleStream().Records...).text()}, chunkTexts(quarters())}
	for _, list := range lists {
		for i, text := range list {
			texts := slices.Clone(list)
			for at := range text {
				b := []byte(text)
				for c := range 256 {
					b[at] = byte(c)
					texts[i] = string(b)
					agreesJoin(t, texts)
					texts[i] = summed(string(b[:len(b)-4]))
					agreesJoin(t, texts)
				}
			}
			for n := range text {
				texts[i] = text[:n]
				join.refuses(t, api.ErrShort, texts...)
				join.refuses(t, api.ErrShort, text[:n])
			}
		}
	}
}

// P1 and P8: where several errors apply, the one that is named first; and nothing beside it.
func TestJoinManyFaults(t *testing.T) {
	d := dice(34)
	count := map[api.Errno]int{}
	for range 8000 {
		p := drawn(&d)[0]
		texts := shuffled(&d, mustSplit(t, p.text, 31+p.s.Size+d.below(20)))
		for range d.below(3) {
			i := d.below(len(texts))
			texts[i] = turned(&d, texts[i])
		}
		switch d.below(8) {
		case 0:
			texts = texts[1:]
		case 1:
			texts = append(texts, texts[0])
		case 2:
			texts[d.below(len(texts))] = texts[0]
		case 3:
			texts = slices.Repeat(texts, d.below(20))
		}
		count[agreesJoin(t, texts)]++
	}
	for _, e := range []api.Errno{api.OK, api.ErrArg, api.ErrShort, api.ErrHead, api.ErrKind, api.ErrOrder, api.ErrSum, api.ErrRest, api.ErrChunk} {
		if count[e] == 0 {
			t.Errorf("no list was answered with %d", e)
		}
	}
}

// P2: the chunks that are handed in stay as they were, in their order, and so does the room behind them; and the answer is no piece of them.
func TestJoinLeavesTheChunks(t *testing.T) {
	good := chunkTexts(quarters())
	back := slices.Clone(good)
	slices.Reverse(back)
	for _, list := range [][]string{good, back, back[:3], {good[2], good[0]}, {good[1], ""}, {back[0], back[0]}, exampleChunks(), {}} {
		room := append(slices.Clone(list), "behind", "", good[0], "far")
		was := slices.Clone(room)
		first, e := stream.Join(room[:len(list)])
		if !slices.Equal(room, was) {
			t.Errorf("the chunks have become %q", room)
		}
		for _, text := range list {
			if lies(first, text) {
				t.Error("the answer lies in what was handed in")
			}
		}
		again, f := stream.Join(room[:len(list):len(list)])
		clear(room)
		if first != again || e != f {
			t.Errorf("Join, once more: %q, %d; it was %q, %d", again, f, first, e)
		}
	}
}
