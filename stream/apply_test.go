package stream_test

import (
	"slices"
	"strings"
	"testing"

	"strand/api"
	"strand/stream"
)

// P5: what is written is held, what is freed is not, the rest stays.
func TestApplyChanges(t *testing.T) {
	none := api.Cell{}
	text := made(1, 2, 6, 2, wrote(0, "ab"), wrote(1, "cd"), freed(2), freed(3)).text
	for _, c := range []struct {
		text    string
		v, want []api.Cell
	}{
		{exampleText, []api.Cell{none, held("xx"), none, held("yy")}, []api.Cell{held("ab"), held("xx"), none, none}},
		{exampleText, make([]api.Cell, 4), []api.Cell{held("ab"), none, none, none}},
		{text, []api.Cell{none, held("xx"), none, held("yy"), none, held("zz")}, []api.Cell{held("ab"), held("cd"), none, none, none, held("zz")}},
		{made(0, 1, 1, 1).text, []api.Cell{none}, []api.Cell{none}},
		{made(0, 1, 1, 1).text, []api.Cell{held("\x00")}, []api.Cell{held("\x00")}},
		{made(0, 1, 1, 1, freed(0)).text, []api.Cell{held("\x00")}, []api.Cell{none}},
		{made(0, 1, 1, 1, wrote(0, "\x00")).text, []api.Cell{none}, []api.Cell{held("\x00")}},
	} {
		if got, e := stream.Apply(c.text, c.v); e != api.OK || !slices.Equal(got, c.want) {
			t.Errorf("Apply(%q, %#v) = %#v, %d, want %#v", c.text, c.v, got, e, c.want)
		}
	}
}

// P5: each of the streams, applied to the volume that holds nothing and to the one that holds all.
func TestApplyAll(t *testing.T) {
	for _, p := range pairs() {
		for _, old := range []api.Cell{{}, held(strings.Repeat("o", p.s.Size))} {
			v := slices.Repeat([]api.Cell{old}, p.s.Blocks)
			want := slices.Clone(v)
			for _, r := range p.s.Records {
				want[r.Block] = api.Cell{Held: !r.Free, Data: r.Data}
			}
			if got, e := stream.Apply(p.text, v); e != api.OK || !slices.Equal(got, want) {
				t.Errorf("Apply(%.80q, %#v..) = %#v, %d", p.text, old, got, e)
			}
		}
	}
}

// P5: a list that is no volume of the stream's Blocks and Size.
func TestApplyNoVolume(t *testing.T) {
	none := api.Cell{}
	for _, v := range [][]api.Cell{
		nil, {}, make([]api.Cell, 1), make([]api.Cell, 3), make([]api.Cell, 5), make([]api.Cell, 4, 9)[:3], make([]api.Cell, 100), make([]api.Cell, 65540),
		{none, none, none, held("x")}, {none, none, none, held("xxx")}, {held(""), none, none, none}, {none, held(strings.Repeat("x", 64)), none, none},
		{none, none, none, {Data: "x"}}, {none, none, none, {Data: "xx"}}, {{Data: "\x00\x00"}, none, none, none},
		// Not even where the stream has a record of that block.
		{held("x"), none, none, none}, {none, none, none, {Data: "yy"}},
	} {
		if got, e := stream.Apply(exampleText, v); e != api.ErrArg || got != nil {
			t.Errorf("Apply to %#v = %#v, %d, want ErrArg", v, got, e)
		}
	}
}

// P5: Parse's error is told ahead of the volume's.
func TestApplyParseFirst(t *testing.T) {
	h := headText(1, 2, 4, 2, 1)
	for _, text := range []string{"", "x", strings.Repeat("x", 18), headText(1, 1, 4, 2, 0), h, h + "\x00", h + frees(4), h + frees(0) + "abcd", exampleText + "x"} {
		want := told(text)
		for _, v := range [][]api.Cell{nil, make([]api.Cell, 4), make([]api.Cell, 5), {{}, {}, {}, {Data: "x"}}} {
			if got, e := stream.Apply(text, v); e != want || e == api.OK || got != nil {
				t.Errorf("Apply(%q, %#v) = %#v, %d, want %d", text, v, got, e, want)
			}
		}
	}
}
