package stream_test

import (
	"slices"
	"strings"
	"testing"
	"unsafe"

	"strand/api"
	"strand/stream"
)

// P1: every call ends and none panics, at texts of all kinds, and beside an error there are zeros.
func TestNoPanic(t *testing.T) {
	d := dice(7)
	volumes := [][]api.Cell{nil, {}, make([]api.Cell, 4), {held("x")}, make([]api.Cell, 101)}
	for range 20000 {
		text := strangeText(&d)
		from, many := numbers[d.below(len(numbers))]-2, numbers[d.below(len(numbers))]-2
		s, e := stream.Parse(text)
		if e != api.OK && (!sameStream(s, api.Stream{}) || s.Records != nil) {
			t.Fatalf("Parse(%q) = %#v, %d", text, s, e)
		}
		if v, e := stream.Apply(text, volumes[d.below(len(volumes))]); e != api.OK && v != nil {
			t.Fatalf("Apply(%q, ..) = %#v, %d", text, v, e)
		}
		if l, e := stream.Some(text, from, many); e != api.OK && l != nil {
			t.Fatalf("Some(%q, %d, %d) = %#v, %d", text, from, many, l, e)
		}
		if out, e := stream.Serialize(strangeStream(&d)); (e == api.OK) == (out == "") {
			t.Fatalf("Serialize = %q, %d", out, e)
		}
		texts := strangeTexts(&d)
		for i, c := range []call{compose, squash} {
			if out, e := c.do(texts); e != toldOf(texts, i == 1) || (e == api.OK) == (out == "") {
				t.Fatalf("%s(%q) = %q, %d", c.name, texts, out, e)
			}
		}
		if l, e := stream.Split(text, from); e != api.OK && l != nil || e == api.OK && len(l) == 0 {
			t.Fatalf("Split(%q, %d) = %q, %d", text, from, l, e)
		}
		agreesCanon(t, text)
		agreesCanon(t, "STRU"+text[min(4, len(text)):])
		agreesJoin(t, texts)
		agreesJoin(t, strangeChunks(&d))
	}
}

// strangeChunks are chunks that can mostly be read, and seldom go together.
func strangeChunks(d *dice) []string {
	var texts []string
	for range d.below(5) {
		c := chunk{d.below(2), 1 + d.below(2), 2, 1, d.below(3), d.below(3), d.below(4), nil}
		for b := range d.below(3) {
			c.records = append(c.records, freed(b+d.below(2)))
		}
		texts = append(texts, c.text())
		if d.below(10) == 0 {
			texts = append(texts, "STRC"+strangeText(d))
		}
	}
	return texts
}

// strangeText is a head that is mostly right, and any bytes behind it, mostly small ones.
func strangeText(d *dice) string {
	b := []byte(headText(d.below(3), 1+d.below(3), d.below(102), d.below(5), d.below(5)))
	for range d.below(60) {
		b = append(b, byte(d.below(5)))
	}
	if d.below(5) == 0 {
		b = b[:d.below(len(b)+1)]
	}
	if d.below(5) == 0 {
		return summed(string(b))
	}
	return string(b)
}

// strangeTexts are texts that can mostly be read, and seldom go together.
func strangeTexts(d *dice) []string {
	var texts []string
	for range d.below(19) {
		if d.below(20) == 0 {
			texts = append(texts, strangeText(d))
		} else {
			texts = append(texts, summed(headText(d.below(2), 1+d.below(3), 1+d.below(2), 1, 1)+frees(0)))
		}
	}
	return texts[:d.below(len(texts)+1)]
}

// strangeStream is a stream that is sometimes well made.
func strangeStream(d *dice) api.Stream {
	odd := func(good int) int {
		if d.below(12) > 0 {
			return good
		}
		return beyond[d.below(len(beyond))]
	}
	s := api.Stream{From: odd(1), To: odd(2), Blocks: odd(3), Size: odd(1)}
	for range d.below(4) {
		s.Records = append(s.Records, api.Record{Free: d.below(2) == 0, Block: odd(d.below(3)), Data: strings.Repeat("a", d.below(3))})
	}
	return s
}

// P2: an answer hangs on the arguments alone: not on what was asked ahead of it, nor on what became of other answers.
func TestSameAgain(t *testing.T) {
	for _, p := range pairs() {
		v := make([]api.Cell, p.s.Blocks)
		s, _ := stream.Parse(p.text)
		cells, _ := stream.Apply(p.text, v)
		some, _ := stream.Some(p.text, 0, 3)
		wantCells, wantSome := slices.Clone(cells), slices.Clone(some)
		spoil(s.Records)
		spoil(cells)
		spoil(some)
		stream.Parse("x")
		stream.Serialize(api.Stream{})
		if again, e := stream.Parse(p.text); e != api.OK || !sameStream(again, p.s) {
			t.Errorf("Parse, once more: %#v, %d", again, e)
		}
		if again, e := stream.Apply(p.text, v); e != api.OK || !slices.Equal(again, wantCells) {
			t.Errorf("Apply, once more: %#v, %d", again, e)
		}
		if again, e := stream.Some(p.text, 0, 3); e != api.OK || !slices.Equal(again, wantSome) {
			t.Errorf("Some, once more: %#v, %d", again, e)
		}
		if again, e := stream.Serialize(p.s); e != api.OK || again != p.text {
			t.Errorf("Serialize, once more: %q, %d", again, e)
		}
	}
}

// spoil empties a list that has come out, its spare room too.
func spoil[T any](list []T) { clear(list[:cap(list)]) }

// P2: two answers share no memory, not even their spare room.
func TestAnswersApart(t *testing.T) {
	p := made(1, 2, 5, 1, wrote(0, "a"), freed(1), wrote(2, "c"), freed(3), wrote(4, "e"))
	one, _ := stream.Parse(p.text)
	two, _ := stream.Parse(p.text)
	_ = append(one.Records, wrote(9, "z"))
	spoil(one.Records)
	if !sameStream(two, p.s) {
		t.Errorf("Parse: an answer has changed with another: %#v", two)
	}
	first, _ := stream.Some(p.text, 0, 2)
	rest, _ := stream.Some(p.text, 2, 3)
	_ = append(first, wrote(9, "z"))
	spoil(first)
	if !slices.Equal(rest, p.s.Records[2:]) {
		t.Errorf("Some: an answer has changed with another: %#v", rest)
	}
}

// P2: a volume that is handed in stays as it is, and so does what stands behind it; and it has no part in the answer.
func TestApplyLeavesTheVolume(t *testing.T) {
	room := []api.Cell{held("ww"), held("xx"), {}, held("yy"), held("behind"), {Data: "far"}}
	was := slices.Clone(room)
	got, e := stream.Apply(exampleText, room[:4])
	if e != api.OK {
		t.Fatal(e)
	}
	spoil(append(got, held("more")))
	spoil(got)
	if !slices.Equal(room, was) {
		t.Errorf("the volume has become %#v", room)
	}
	got, _ = stream.Apply(exampleText, room[:4])
	want := slices.Clone(got)
	clear(room)
	if !slices.Equal(got, want) {
		t.Errorf("the answer has become %#v", got)
	}
	for _, v := range [][]api.Cell{was[:3], was[:5]} {
		stream.Apply(exampleText, v)
		if was[4] != held("behind") || was[0] != held("ww") {
			t.Errorf("a list that was refused has become %#v", was)
		}
	}
}

// P2: the same of a stream's records.
func TestSerializeLeavesTheRecords(t *testing.T) {
	room := []api.Record{wrote(0, "ab"), freed(3), wrote(7, "behind"), freed(-1)}
	was := slices.Clone(room)
	text, e := stream.Serialize(api.Stream{From: 1, To: 2, Blocks: 4, Size: 2, Records: room[:2]})
	if e != api.OK || text != exampleText || !slices.Equal(room, was) {
		t.Errorf("Serialize = %q, %d; the records are %#v", text, e, room)
	}
	stream.Serialize(api.Stream{From: 1, To: 2, Blocks: 4, Size: 2, Records: room[:3]})
	if !slices.Equal(room, was) {
		t.Errorf("records that were refused have become %#v", room)
	}
}

// lies tells whether a string is a piece of the other's memory.
func lies(part, whole string) bool {
	if part == "" || whole == "" {
		return false
	}
	at, from := uintptr(unsafe.Pointer(unsafe.StringData(part))), uintptr(unsafe.Pointer(unsafe.StringData(whole)))
	return from <= at && at < from+uintptr(len(whole))
}

// P2: nothing that is handed in is kept, its bytes neither.
func TestNothingKept(t *testing.T) {
	p := made(1, 2, 2, 8, wrote(0, "abcdefgh"))
	s, _ := stream.Parse(p.text)
	some, _ := stream.Some(p.text, 0, 1)
	v := []api.Cell{{}, held(strings.Repeat("x", 8))}
	cells, _ := stream.Apply(p.text, v)
	if len(s.Records) != 1 || len(some) != 1 || len(cells) != 2 {
		t.Fatal(s, some, cells)
	}
	if lies(s.Records[0].Data, p.text) || lies(some[0].Data, p.text) || lies(cells[0].Data, p.text) || lies(cells[1].Data, v[1].Data) {
		t.Error("an answer lies in what was handed in")
	}
}
