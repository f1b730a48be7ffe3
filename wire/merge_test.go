package wire

import (
	"iter"
	"slices"
	"testing"

	"strand/api"
)

// tap is an iterator over records of these blocks, which counts how many it was asked for and whether it has ended.
type tap struct {
	blocks []int
	data   string
	asked  int
	ended  bool
	fault  any // given up by panic behind the records
}

func (p *tap) records(yield func(api.Record) bool) {
	defer func() { p.ended = true }()
	for _, b := range p.blocks {
		p.asked++
		if !yield(api.Record{Block: b, Data: p.data}) {
			return
		}
	}
	if p.fault != nil {
		panic(p.fault)
	}
}

// partsOf are the iterators of taps.
func partsOf(taps ...*tap) []iter.Seq[api.Record] {
	var parts []iter.Seq[api.Record]
	for _, p := range taps {
		parts = append(parts, p.records)
	}
	return parts
}

// blocksOf is the blocks and the data that an iterator tells.
func blocksOf(records iter.Seq[api.Record]) (blocks []int, data string) {
	for r := range records {
		blocks = append(blocks, r.Block)
		data += r.Data
	}
	return blocks, data
}

// Records come in rising order, each block once, from the last iterator that has it.
func TestMerged(t *testing.T) {
	for _, c := range []struct {
		a, b, c []int
		want    []int
		data    string
	}{
		{nil, nil, nil, nil, ""},
		{[]int{1, 2}, nil, nil, []int{1, 2}, "aa"},
		{nil, []int{1, 2}, nil, []int{1, 2}, "bb"},
		{nil, nil, []int{0}, []int{0}, "c"},
		{[]int{5}, []int{3}, []int{1}, []int{1, 3, 5}, "cba"},
		{[]int{1}, []int{3}, []int{5}, []int{1, 3, 5}, "abc"},
		{[]int{0, 4}, []int{0, 4}, []int{0, 4}, []int{0, 4}, "cc"},
		{[]int{0, 1, 2, 3}, []int{1, 2}, []int{2, 9}, []int{0, 1, 2, 3, 9}, "abcac"},
		{[]int{2, 9}, []int{1, 2}, []int{0, 1, 2, 3}, []int{0, 1, 2, 3, 9}, "cccca"},
	} {
		blocks, data := blocksOf(Merged(partsOf(&tap{blocks: c.a, data: "a"}, &tap{blocks: c.b, data: "b"}, &tap{blocks: c.c, data: "c"})))
		if !slices.Equal(blocks, c.want) || data != c.data {
			t.Errorf("merged %v, %v, %v = %v, %q, want %v, %q", c.a, c.b, c.c, blocks, data, c.want, c.data)
		}
	}
	if blocks, _ := blocksOf(Merged(nil)); blocks != nil {
		t.Errorf("merged of nothing = %v", blocks)
	}
}

// Ended by yield, it has asked each iterator for no more than the one record that it must know, and all have ended.
func TestMergedReadsNoFurther(t *testing.T) {
	for n, want := range [][2]int{{1, 1}, {2, 1}, {2, 2}, {3, 3}, {3, 4}} {
		a, b := &tap{blocks: []int{0, 3, 8, 9}, data: "a"}, &tap{blocks: []int{1, 3, 7, 9}, data: "b"}
		seen := 0
		for range Merged(partsOf(a, b)) {
			seen++
			if seen == n+1 {
				break
			}
		}
		if seen != n+1 || a.asked != want[0] || b.asked != want[1] || !a.ended || !b.ended {
			t.Errorf("ended at record %d: asked for %d and %d, want %v; ended: %t, %t", n, a.asked, b.asked, want, a.ended, b.ended)
		}
	}
}

// Nothing is asked for till the merged records are gone through.
func TestMergedWaits(t *testing.T) {
	a := &tap{blocks: []int{0}}
	Merged(partsOf(a))
	if a.asked != 0 {
		t.Errorf("asked for %d", a.asked)
	}
}

// What one of the iterators gives up comes out, and the others have ended by then.
func TestMergedGivesUp(t *testing.T) {
	for at := range 3 {
		for _, fault := range []any{api.ErrFile, "another fault"} {
			taps := []*tap{{blocks: []int{0, 3}}, {blocks: []int{1, 4}}, {blocks: []int{2, 5}}}
			taps[at].fault = fault
			func() {
				defer func() {
					if got := recover(); got != fault {
						t.Errorf("the panic %v has become %v", fault, got)
					}
				}()
				blocksOf(Merged(partsOf(taps...)))
			}()
			for i, p := range taps {
				// Those that were not begun yet need not end.
				if p.asked > 0 && !p.ended {
					t.Errorf("the fault of %d: iterator %d has not ended", at, i)
				}
			}
		}
	}
	early := &tap{fault: api.ErrSum}
	if e := Caught(func() { blocksOf(Merged(partsOf(&tap{blocks: []int{0}}, early))) }); e != api.ErrSum {
		t.Errorf("Caught = %d", e)
	}
}

// Of each block the last record is left, in rising order, whatever comes.
func TestLatestOf(t *testing.T) {
	for _, c := range []struct {
		blocks []int
		data   string
		want   []int
		left   string
	}{
		{nil, "", nil, ""},
		{[]int{7}, "a", []int{7}, "a"},
		{[]int{2, 1, 0}, "abc", []int{0, 1, 2}, "cba"},
		{[]int{0, 0, 0}, "abc", []int{0}, "c"},
		{[]int{3, 1, 3, 2, 1, 3}, "abcdef", []int{1, 2, 3}, "edf"},
		{[]int{9, 0, 9, 0}, "abcd", []int{0, 9}, "dc"},
	} {
		var list []api.Record
		for i, b := range c.blocks {
			list = append(list, api.Record{Block: b, Data: c.data[i : i+1]})
		}
		if blocks, data := blocksOf(slices.Values(LatestOf(list))); !slices.Equal(blocks, c.want) || data != c.left {
			t.Errorf("LatestOf %v, %q = %v, %q, want %v, %q", c.blocks, c.data, blocks, data, c.want, c.left)
		}
	}
}
