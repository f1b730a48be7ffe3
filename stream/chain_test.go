package stream_test

import (
	"slices"
	"strings"
	"testing"

	"strand/api"
	"strand/stream"
)

// call is Compose or Squash.
type call struct {
	name string
	do   func([]string) (string, api.Errno)
}

var compose, squash = call{"Compose", stream.Compose}, call{"Squash", stream.Squash}

// ask holds what a call answers to texts against this text and error.
func (c call) ask(t *testing.T, texts []string, want string, wantErr api.Errno) {
	t.Helper()
	if got, e := c.do(texts); e != wantErr || got != want {
		t.Fatalf("%s(%.300q) = %.100q, %d, want %.100q, %d", c.name, texts, got, e, want, wantErr)
	}
}

// refuses asks for this error, and nothing beside it.
func (c call) refuses(t *testing.T, want api.Errno, texts ...string) {
	t.Helper()
	c.ask(t, texts, "", want)
}

// textsOf are the texts of streams.
func textsOf(list ...pair) []string {
	var out []string
	for _, p := range list {
		out = append(out, p.text)
	}
	return out
}

// both are the streams of DOC.md's example, which go together.
func both() []string { return []string{exampleText, made(2, 3, 4, 2, wrote(3, "cd")).text} }

// P6: the example of DOC.md.
func TestComposeExample(t *testing.T) {
	compose.ask(t, both(), made(1, 3, 4, 2, wrote(0, "ab"), wrote(3, "cd")).text, api.OK)
	compose.refuses(t, api.ErrChain, exampleText, made(2, 1, 4, 2, wrote(3, "cd")).text)
}

// P6: of each block the last record counts, whatever the ones ahead of it say.
func TestComposeLastCounts(t *testing.T) {
	for _, c := range []struct {
		list []pair
		want pair
	}{
		{[]pair{made(1, 2, 4, 1, wrote(2, "a")), made(2, 3, 4, 1, wrote(2, "b"))}, made(1, 3, 4, 1, wrote(2, "b"))},
		{[]pair{made(1, 2, 4, 1, wrote(2, "a")), made(2, 3, 4, 1, freed(2))}, made(1, 3, 4, 1, freed(2))},
		{[]pair{made(1, 2, 4, 1, freed(2)), made(2, 3, 4, 1, wrote(2, "b"))}, made(1, 3, 4, 1, wrote(2, "b"))},
		{[]pair{made(1, 2, 4, 1, freed(2)), made(2, 3, 4, 1, freed(2))}, made(1, 3, 4, 1, freed(2))},
		{[]pair{made(1, 2, 4, 1, wrote(2, "a")), made(2, 3, 4, 1, freed(2)), made(3, 4, 4, 1, wrote(2, "c"))}, made(1, 4, 4, 1, wrote(2, "c"))},
		{[]pair{made(1, 2, 4, 1, freed(2)), made(2, 3, 4, 1, wrote(2, "b")), made(3, 4, 4, 1, freed(2))}, made(1, 4, 4, 1, freed(2))},
		// A later stream without a record of the block does not count.
		{[]pair{made(1, 2, 4, 1, wrote(2, "a")), made(2, 3, 4, 1, freed(2)), made(3, 4, 4, 1, wrote(1, "c"), freed(3))}, made(1, 4, 4, 1, wrote(1, "c"), freed(2), freed(3))},
		// The records stand in rising order, from whichever stream they come.
		{[]pair{made(1, 2, 6, 1, wrote(4, "e"), freed(5)), made(2, 3, 6, 1, freed(2), wrote(3, "d")), made(3, 4, 6, 1, wrote(0, "a"), freed(1))}, made(1, 4, 6, 1, wrote(0, "a"), freed(1), freed(2), wrote(3, "d"), wrote(4, "e"), freed(5))},
		{[]pair{made(1, 2, 6, 1, wrote(0, "a"), freed(3)), made(2, 3, 6, 1, freed(1), wrote(4, "e")), made(3, 4, 6, 1, wrote(2, "c"), freed(5))}, made(1, 4, 6, 1, wrote(0, "a"), freed(1), wrote(2, "c"), freed(3), wrote(4, "e"), freed(5))},
		// Streams without records, at every place.
		{[]pair{made(1, 2, 4, 1), made(2, 3, 4, 1, freed(2))}, made(1, 3, 4, 1, freed(2))},
		{[]pair{made(1, 2, 4, 1, freed(2)), made(2, 3, 4, 1)}, made(1, 3, 4, 1, freed(2))},
		{[]pair{made(1, 2, 4, 1), made(2, 3, 4, 1), made(3, 4, 4, 1)}, made(1, 4, 4, 1)},
		// From 0 a record may be Free, and stays.
		{[]pair{made(0, 2, 4, 1, freed(0)), made(2, 3, 4, 1, freed(1))}, made(0, 3, 4, 1, freed(0), freed(1))},
	} {
		compose.ask(t, textsOf(c.list...), c.want.text, api.OK)
	}
}

// P6: what is freed in the end is not in what Squash answers, whenever it was.
func TestSquashNoFree(t *testing.T) {
	zero := made(0, 1, 4, 2, wrote(1, "xx"), wrote(3, "yy"))
	for _, c := range []struct {
		list []pair
		want pair
	}{
		{[]pair{zero}, zero},
		{[]pair{made(0, 1, 4, 2)}, made(0, 1, 4, 2)},
		{[]pair{zero, {text: exampleText}}, made(0, 2, 4, 2, wrote(0, "ab"), wrote(1, "xx"))},
		{[]pair{zero, {text: exampleText}, made(2, 3, 4, 2, wrote(3, "cd"))}, made(0, 3, 4, 2, wrote(0, "ab"), wrote(1, "xx"), wrote(3, "cd"))},
		{[]pair{zero, made(1, 2, 4, 2, freed(1), freed(3))}, made(0, 2, 4, 2)},
		{[]pair{zero, made(1, 2, 4, 2, freed(0), freed(2))}, made(0, 2, 4, 2, wrote(1, "xx"), wrote(3, "yy"))},
		{[]pair{zero, made(1, 2, 4, 2, freed(1)), made(2, 3, 4, 2, wrote(1, "zz"), freed(3))}, made(0, 3, 4, 2, wrote(1, "zz"))},
		{[]pair{zero, made(1, 2, 4, 2, wrote(1, "zz")), made(2, 3, 4, 2, freed(1))}, made(0, 3, 4, 2, wrote(3, "yy"))},
		{[]pair{zero, made(1, 2, 4, 2, freed(1)), made(2, 3, 4, 2, freed(1)), made(3, 9, 4, 2)}, made(0, 9, 4, 2, wrote(3, "yy"))},
		{[]pair{made(0, 1, 4, 2), made(1, 2, 4, 2, freed(0), freed(1), freed(2), freed(3))}, made(0, 2, 4, 2)},
	} {
		squash.ask(t, textsOf(c.list...), c.want.text, api.OK)
	}
}

// hasFree tells whether a record of the stream is Free.
func hasFree(s api.Stream) bool {
	return slices.ContainsFunc(s.Records, func(r api.Record) bool { return r.Free })
}

// P6: one stream alone is itself; Squash asks for a whole one.
func TestOneAlone(t *testing.T) {
	for _, p := range pairs() {
		compose.ask(t, []string{p.text}, p.text, api.OK)
		if p.s.From == 0 && !hasFree(p.s) {
			squash.ask(t, []string{p.text}, p.text, api.OK)
		} else {
			squash.refuses(t, api.ErrWhole, p.text)
		}
	}
}

// row is a chain of n streams from snapshot 0 to n; each writes every third block, and each but the first frees one.
func row(n, blocks, size int) []pair {
	var list []pair
	for i := range n {
		var records []api.Record
		for b := range blocks {
			switch {
			case i > 0 && b == (i*7)%blocks:
				records = append(records, freed(b))
			case (b+i)%3 == 0:
				records = append(records, wrote(b, strings.Repeat(string([]byte{byte(b*n + i)}), size)))
			}
		}
		list = append(list, made(i, i+1, blocks, size, records...))
	}
	return list
}

// last is the record of each block that is the last one in the streams; kept leaves out those that are Free.
func last(list []pair, blocks int) (all, kept []api.Record) {
	for b := range blocks {
		for _, p := range slices.Backward(list) {
			i := slices.IndexFunc(p.s.Records, func(r api.Record) bool { return r.Block == b })
			if i < 0 {
				continue
			}
			r := p.s.Records[i]
			all = append(all, r)
			if !r.Free {
				kept = append(kept, r)
			}
			break
		}
	}
	return all, kept
}

// P6: from one stream to MaxChain of them, blocks and sizes at their limits and between.
func TestChainLengths(t *testing.T) {
	for n := 1; n <= api.MaxChain; n++ {
		for _, blocks := range []int{1, 2, 17, api.MaxBlocks} {
			for _, size := range []int{1, 3, api.MaxSize} {
				list := row(n, blocks, size)
				all, kept := last(list, blocks)
				compose.ask(t, textsOf(list...), made(0, n, blocks, size, all...).text, api.OK)
				squash.ask(t, textsOf(list...), made(0, n, blocks, size, kept...).text, api.OK)
			}
		}
	}
}

// P6: snapshots at their limits, and streams with a record of every block.
func TestChainLimits(t *testing.T) {
	full := func(c string) (out []api.Record) {
		for b := range api.MaxBlocks {
			out = append(out, wrote(b, strings.Repeat(c, api.MaxSize)))
		}
		return out
	}
	var none []api.Record
	for b := range api.MaxBlocks {
		none = append(none, freed(b))
	}
	a, b := made(0, api.MaxId, 100, 64, full("a")...), made(api.MaxId, 1, 100, 64, full("b")...)
	free, other := made(1, api.MaxId-1, 100, 64, none...), made(api.MaxId-1, api.MaxId, 100, 64, wrote(99, strings.Repeat("\xff", 64)))
	compose.ask(t, textsOf(a, b), made(0, 1, 100, 64, full("b")...).text, api.OK)
	squash.ask(t, textsOf(a, b), made(0, 1, 100, 64, full("b")...).text, api.OK)
	compose.ask(t, textsOf(a, b, free), made(0, api.MaxId-1, 100, 64, none...).text, api.OK)
	squash.ask(t, textsOf(a, b, free), made(0, api.MaxId-1, 100, 64).text, api.OK)
	compose.ask(t, textsOf(a, b, free, other), made(0, api.MaxId, 100, 64, append(slices.Clone(none[:99]), other.s.Records...)...).text, api.OK)
	squash.ask(t, textsOf(a, b, free, other), made(0, api.MaxId, 100, 64, other.s.Records...).text, api.OK)
	compose.refuses(t, api.ErrChain, textsOf(b, free, other)...)
	for _, sizes := range [][2]int{{1, 1}, {1, 64}, {100, 1}, {100, 64}} {
		one, two := made(0, 1, sizes[0], sizes[1]), made(1, 2, sizes[0], sizes[1], freed(sizes[0]-1))
		compose.ask(t, textsOf(one, two), made(0, 2, sizes[0], sizes[1], freed(sizes[0]-1)).text, api.OK)
		squash.ask(t, textsOf(one, two), made(0, 2, sizes[0], sizes[1]).text, api.OK)
	}
}

// P6: no texts, and more than MaxChain, whatever they are.
func TestChainCount(t *testing.T) {
	long := textsOf(row(api.MaxChain+1, 3, 1)...)
	for _, c := range []call{compose, squash} {
		c.refuses(t, api.ErrArg)
		c.refuses(t, api.ErrArg, []string{}...)
		c.refuses(t, api.ErrArg, long[:0]...)
		c.refuses(t, api.ErrArg, long...)
		c.refuses(t, api.ErrArg, make([]string, api.MaxChain+1)...)
		c.refuses(t, api.ErrArg, slices.Repeat([]string{exampleText}, api.MaxChain+1)...)
		c.refuses(t, api.ErrArg, make([]string, 100000)...)
		c.refuses(t, api.ErrShort, make([]string, api.MaxChain)...)
		if text, e := c.do(long[:api.MaxChain]); e != api.OK || text == "" {
			t.Errorf("%s of MaxChain texts = %q, %d", c.name, text, e)
		}
	}
	compose.ask(t, long[1:], made(1, 17, 3, 1, freed(0), freed(1), wrote(2, "\x32")).text, api.OK)
}

// faulty are texts of which each has an error of its own.
func faulty() map[api.Errno]string {
	h := headText(2, 3, 4, 2, 1)
	return map[api.Errno]string{
		api.ErrShort: exampleText[:29], api.ErrMagic: "STRC" + exampleText[4:], api.ErrHead: summed(headText(2, 2, 4, 2, 0)), api.ErrKind: summed(h + "\x03\x00\x00"),
		api.ErrOrder: summed(h + frees(4)), api.ErrSum: h + frees(3) + "abcd", api.ErrRest: exampleText + "\x00",
	}
}

// P6: Parse's error, wherever the text stands, ahead of what does not go together.
func TestChainParseFirst(t *testing.T) {
	good := textsOf(row(api.MaxChain, 4, 2)...)
	loose := slices.Repeat([]string{exampleText}, api.MaxChain)
	for want, bad := range faulty() {
		for _, texts := range [][]string{good, good[:1], good[:3], good[1:4], loose, loose[:2]} {
			for i := range texts {
				list := slices.Clone(texts)
				list[i] = bad
				compose.refuses(t, want, list...)
				squash.refuses(t, want, list...)
			}
		}
	}
}

// P6: of several texts that have an error the first one's is told.
func TestChainFirstFault(t *testing.T) {
	good := textsOf(row(4, 4, 2)...)
	for one, bad := range faulty() {
		for two, worse := range faulty() {
			for _, c := range []call{compose, squash} {
				c.refuses(t, one, bad, worse)
				c.refuses(t, two, worse, bad)
				c.refuses(t, one, good[0], bad, good[2], worse)
				c.refuses(t, two, exampleText, worse, exampleText, bad)
			}
		}
	}
}

// P6: each cause of ErrChain by itself, at every link.
func TestChainCauses(t *testing.T) {
	with := func(n, at int, change func(s *api.Stream)) []string {
		list := row(n, 9, 4)
		change(&list[at].s)
		s := list[at].s
		list[at] = made(s.From, s.To, s.Blocks, s.Size)
		return textsOf(list...)
	}
	for _, n := range []int{2, 3, api.MaxChain} {
		for at := range n {
			for _, by := range []int{-1, 1} {
				for _, change := range []func(s *api.Stream){
					func(s *api.Stream) { s.Blocks += by },
					func(s *api.Stream) { s.Size += by },
				} {
					compose.refuses(t, api.ErrChain, with(n, at, change)...)
					squash.refuses(t, api.ErrChain, with(n, at, change)...)
				}
				if at > 0 {
					// 50 on: no From or To that another has.
					compose.refuses(t, api.ErrChain, with(n, at, func(s *api.Stream) { s.From += 50 * (by + 2) })...)
					squash.refuses(t, api.ErrChain, with(n, at, func(s *api.Stream) { s.From += 50 * (by + 2) })...)
				}
				if at < n-1 {
					compose.refuses(t, api.ErrChain, with(n, at, func(s *api.Stream) { s.To += 50 * (by + 2) })...)
					squash.refuses(t, api.ErrChain, with(n, at, func(s *api.Stream) { s.To += 50 * (by + 2) })...)
				}
			}
			mustCompose(t, with(n, at, func(*api.Stream) {}))
		}
	}
}

// mustCompose is what Compose answers, which must be OK.
func mustCompose(t *testing.T, texts []string) string {
	t.Helper()
	text, e := stream.Compose(texts)
	if e != api.OK {
		t.Fatalf("Compose(%.300q): %d", texts, e)
	}
	return text
}

// P6: where streams neither follow each other nor the numbers are far off: turned round, twice the same, one left out.
func TestChainOrder(t *testing.T) {
	l := textsOf(row(4, 5, 1)...)
	for _, texts := range [][]string{{l[1], l[0]}, {l[0], l[0]}, {l[1], l[1]}, {l[0], l[2]}, {l[0], l[1], l[3]}, {l[0], l[1], l[1]}, {l[0], l[2], l[1]}, {l[3], l[2], l[1]}, {l[0], l[1], l[2], l[0]}} {
		compose.refuses(t, api.ErrChain, texts...)
		if texts[0] == l[0] {
			squash.refuses(t, api.ErrChain, texts...)
		} else {
			squash.refuses(t, api.ErrWhole, texts...)
		}
	}
}

// P6: the chain may come back to where it began, but not end there.
func TestChainRound(t *testing.T) {
	ahead, back := made(1, 2, 4, 2, wrote(0, "ab")), made(2, 1, 4, 2, freed(3))
	compose.refuses(t, api.ErrChain, ahead.text, back.text)
	compose.refuses(t, api.ErrChain, back.text, ahead.text)
	compose.ask(t, textsOf(ahead, back, ahead), made(1, 2, 4, 2, wrote(0, "ab"), freed(3)).text, api.OK)
	compose.refuses(t, api.ErrChain, textsOf(ahead, back, ahead, back)...)
	compose.refuses(t, api.ErrChain, textsOf(ahead, made(2, 3, 4, 2), made(3, 1, 4, 2))...)
	compose.ask(t, textsOf(back, ahead, made(2, 3, 4, 2)), made(2, 3, 4, 2, wrote(0, "ab"), freed(3)).text, api.OK)
	compose.ask(t, textsOf(made(5, 2, 4, 2), back), made(5, 1, 4, 2, freed(3)).text, api.OK)
	squash.ask(t, textsOf(made(0, 1, 4, 2), ahead, back), made(0, 1, 4, 2, wrote(0, "ab")).text, api.OK)
}

// P6: ErrWhole, if the first stream is not a whole one, by its From or by a record that is Free; ahead of ErrChain.
func TestSquashWhole(t *testing.T) {
	next := made(1, 2, 4, 2, wrote(0, "ab"))
	for _, first := range []pair{
		made(2, 1, 4, 2), made(2, 1, 4, 2, wrote(0, "ab")), made(api.MaxId, 1, 4, 2), made(0, 1, 4, 2, freed(0)), made(0, 1, 4, 2, freed(3)), made(0, 1, 4, 2, wrote(0, "ab"), freed(1), wrote(2, "cd")), made(3, 1, 4, 2, freed(0)),
	} {
		squash.refuses(t, api.ErrWhole, first.text)
		squash.refuses(t, api.ErrWhole, textsOf(first, next)...)
		squash.refuses(t, api.ErrWhole, textsOf(first, made(1, 2, 5, 2))...)
		squash.refuses(t, api.ErrWhole, textsOf(first, made(1, 2, 4, 3))...)
		squash.refuses(t, api.ErrWhole, textsOf(first, made(9, 2, 4, 2))...)
		squash.refuses(t, api.ErrWhole, textsOf(first, first)...)
		if first.s.From != 0 {
			squash.refuses(t, api.ErrWhole, textsOf(first, made(1, first.s.From, 4, 2))...)
		}
		compose.ask(t, textsOf(first), first.text, api.OK)
	}
	// Only the first one must be whole.
	squash.ask(t, textsOf(made(0, 1, 4, 2), next, made(2, 3, 4, 2, freed(0))), made(0, 3, 4, 2).text, api.OK)
	squash.refuses(t, api.ErrChain, textsOf(made(0, 1, 4, 2), made(0, 2, 4, 2))...)
	squash.refuses(t, api.ErrWhole, textsOf(next, made(0, 1, 4, 2))...)
}

// drawn is a chain of streams, the first a whole one, drawn by dice.
func drawn(d *dice) []pair {
	blocks, size, from := 1+d.below(12), 1+d.below(3), 0
	var list []pair
	for range 1 + d.below(6) {
		var records []api.Record
		for b := range blocks {
			switch d.below(4) {
			case 0:
				records = append(records, wrote(b, strings.Repeat(string([]byte{byte(d.below(256))}), size)))
			case 1:
				if from > 0 {
					records = append(records, freed(b))
				}
			}
		}
		to := 1 + (from+d.below(8))%9
		list = append(list, made(from, to, blocks, size, records...))
		from = to
	}
	return list
}

// P6 and P14: what is put together does to a volume what its streams do one after the other.
func TestChainApplied(t *testing.T) {
	d := dice(11)
	for range 3000 {
		list := drawn(&d)
		texts, s := textsOf(list...), list[0].s
		nothing, some := make([]api.Cell, s.Blocks), make([]api.Cell, s.Blocks)
		for i := range some {
			if d.below(2) == 0 {
				some[i] = held(strings.Repeat("o", s.Size))
			}
		}
		all, kept := last(list, s.Blocks)
		to := list[len(list)-1].s.To
		compose.ask(t, texts, made(0, to, s.Blocks, s.Size, all...).text, api.OK)
		squash.ask(t, texts, made(0, to, s.Blocks, s.Size, kept...).text, api.OK)
		text, _ := stream.Compose(texts)
		short, _ := stream.Squash(texts)
		sameVolume(t, applied(t, nothing, texts...), applied(t, nothing, text))
		sameVolume(t, applied(t, nothing, texts...), applied(t, nothing, short))
		sameVolume(t, applied(t, some, texts...), applied(t, some, text))
	}
}

// applied is the volume v behind these streams.
func applied(t *testing.T, v []api.Cell, texts ...string) []api.Cell {
	t.Helper()
	for _, text := range texts {
		var e api.Errno
		if v, e = stream.Apply(text, v); e != api.OK {
			t.Fatalf("Apply(%q, ..): %d", text, e)
		}
	}
	return v
}

func sameVolume(t *testing.T, want, got []api.Cell) {
	t.Helper()
	if !slices.Equal(want, got) {
		t.Fatalf("the volume is %v, want %v", got, want)
	}
}

// P14: however streams are put together first, what comes of all is the same, where the parts go together.
func TestChainParts(t *testing.T) {
	d := dice(12)
	tried := 0
	for range 1500 {
		texts := textsOf(drawn(&d)...)
		whole := mustCompose(t, texts)
		short, _ := stream.Squash(texts)
		for i := range texts {
			for j := i + 1; j <= len(texts); j++ {
				part, e := stream.Compose(texts[i:j])
				if e != api.OK {
					continue
				}
				tried++
				list := slices.Concat(texts[:i], []string{part}, texts[j:])
				compose.ask(t, list, whole, api.OK)
				if s, _ := stream.Parse(part); i == 0 && hasFree(s) {
					squash.refuses(t, api.ErrWhole, list...)
				} else {
					squash.ask(t, list, short, api.OK)
				}
			}
			part, e := stream.Squash(texts[:i+1])
			if e != api.OK {
				t.Fatalf("Squash(%q): %d", texts[:i+1], e)
			}
			squash.ask(t, append([]string{part}, texts[i+1:]...), short, api.OK)
		}
	}
	if tried < 1000 {
		t.Errorf("only %d parts went together", tried)
	}
}

// toldOf is what P6 says of texts, found by another way than the program's.
func toldOf(texts []string, squash bool) api.Errno {
	if len(texts) == 0 || len(texts) > 16 {
		return api.ErrArg
	}
	for _, text := range texts {
		if e := told(text); e != api.OK {
			return e
		}
	}
	if first, _ := stream.Parse(texts[0]); squash && (first.From != 0 || hasFree(first)) {
		return api.ErrWhole
	}
	for i := 1; i < len(texts); i++ {
		if texts[i][12:16] != texts[i-1][12:16] || texts[i][4:8] != texts[i-1][8:12] {
			return api.ErrChain
		}
	}
	if texts[len(texts)-1][8:12] == texts[0][4:8] {
		return api.ErrChain
	}
	return api.OK
}

// P1 and P6: where several errors apply, the one that is named first; and nothing beside it.
func TestChainManyFaults(t *testing.T) {
	d := dice(13)
	count := map[api.Errno]int{}
	for range 30000 {
		texts := textsOf(drawn(&d)...)
		if d.below(30) == 0 {
			texts = slices.Repeat(texts, d.below(20))
		}
		for range d.below(3) {
			if len(texts) > 0 {
				i := d.below(len(texts))
				texts[i] = turned(&d, texts[i])
			}
		}
		if d.below(3) == 0 && len(texts) > 1 {
			texts = texts[1:]
		}
		for i, c := range []call{compose, squash} {
			want := toldOf(texts, i == 1)
			count[want]++
			if got, e := c.do(texts); e != want || (e == api.OK) == (got == "") {
				t.Fatalf("%s(%q) = %q, %d, want %d", c.name, texts, got, e, want)
			}
		}
	}
	for _, e := range []api.Errno{api.OK, api.ErrArg, api.ErrShort, api.ErrHead, api.ErrKind, api.ErrOrder, api.ErrSum, api.ErrRest, api.ErrChain, api.ErrWhole} {
		if count[e] == 0 {
			t.Errorf("no list was answered with %d", e)
		}
	}
}

// turned is a text with a byte turned, with the right check or not; cut, or longer.
func turned(d *dice, text string) string {
	b := []byte(text)
	if len(b) < 22 {
		return ""
	}
	switch d.below(6) {
	case 0:
		return text[:d.below(len(text))]
	case 1:
		return text + "x"
	case 2:
		b[4+d.below(len(b)-4)] ^= 1
		return string(b)
	}
	b[4+d.below(len(b)-8)] = byte(d.below(4))
	return summed(string(b[:len(b)-4]))
}

// P2: the texts that are handed in stay as they were, and so does the room behind them; and the answer is no piece of them.
func TestChainLeavesTheTexts(t *testing.T) {
	zero := made(0, 1, 4, 2, wrote(1, "xx")).text
	for _, c := range []call{compose, squash} {
		for _, list := range [][]string{append([]string{zero}, both()...), {zero}, {zero, exampleText, ""}, {zero, exampleText, exampleText}, both(), {}} {
			room := append(slices.Clone(list), "behind", "", exampleText, "far")
			was := slices.Clone(room)
			first, e := c.do(room[:len(list)])
			if !slices.Equal(room, was) {
				t.Errorf("%s: the texts have become %q", c.name, room)
			}
			for _, text := range list {
				if lies(first, text) {
					t.Errorf("%s: the answer lies in what was handed in", c.name)
				}
			}
			again, f := c.do(room[:len(list):len(list)])
			clear(room)
			if first != again || e != f {
				t.Errorf("%s, once more: %q, %d; it was %q, %d", c.name, again, f, first, e)
			}
		}
	}
}
