package stream

import (
	"iter"
	"slices"
	"testing"

	"strand/api"
)

// tap is an iterator over records of these blocks, which counts how many it was asked for and whether it has ended.
type tap struct {
	blocks []int
	data   string
	asked  int
	ended  bool
	fault  any // given up by panic behind the records
}

func (p *tap) records(yield func(api.Record) bool) {
	defer func() { p.ended = true }()
	for _, b := range p.blocks {
		p.asked++
		if !yield(api.Record{Block: b, Data: p.data}) {
			return
		}
	}
	if p.fault != nil {
		panic(p.fault)
	}
}

// partsOf are the iterators of taps.
func partsOf(taps ...*tap) []iter.Seq[api.Record] {
	var parts []iter.Seq[api.Record]
	for _, p := range taps {
		parts = append(parts, p.records)
	}
	return parts
}

// blocksOf is the blocks and the data that an iterator tells.
func blocksOf(records iter.Seq[api.Record]) (blocks []int, data string) {
	for r := range records {
		blocks = append(blocks, r.Block)
		data += r.Data
	}
	return blocks, data
}

// Records come in rising order, each block once, from the last iterator that has it.
func TestMerged(t *testing.T) {
	for _, c := range []struct {
		a, b, c []int
		want    []int
		data    string
	}{
		{nil, nil, nil, nil, ""},
		{[]int{1, 2}, nil, nil, []int{1, 2}, "aa"},
		{nil, []int{1, 2}, nil, []int{1, 2}, "bb"},
		{nil, nil, []int{0}, []int{0}, "c"},
		{[]int{5}, []int{3}, []int{1}, []int{1, 3, 5}, "cba"},
		{[]int{1}, []int{3}, []int{5}, []int{1, 3, 5}, "abc"},
		{[]int{0, 4}, []int{0, 4}, []int{0, 4}, []int{0, 4}, "cc"},
		{[]int{0, 1, 2, 3}, []int{1, 2}, []int{2, 9}, []int{0, 1, 2, 3, 9}, "abcac"},
		{[]int{2, 9}, []int{1, 2}, []int{0, 1, 2, 3}, []int{0, 1, 2, 3, 9}, "cccca"},
	} {
		blocks, data := blocksOf(merged(partsOf(&tap{blocks: c.a, data: "a"}, &tap{blocks: c.b, data: "b"}, &tap{blocks: c.c, data: "c"})))
		if !slices.Equal(blocks, c.want) || data != c.data {
			t.Errorf("merged %v, %v, %v = %v, %q, want %v, %q", c.a, c.b, c.c, blocks, data, c.want, c.data)
		}
	}
	if blocks, _ := blocksOf(merged(nil)); blocks != nil {
		t.Errorf("merged of nothing = %v", blocks)
	}
}

// Ended by yield, it has asked each iterator for no more than the one record that it must know, and all have ended.
func TestMergedReadsNoFurther(t *testing.T) {
	for n, want := range [][2]int{{1, 1}, {2, 1}, {2, 2}, {3, 3}, {3, 4}} {
		a, b := &tap{blocks: []int{0, 3, 8, 9}, data: "a"}, &tap{blocks: []int{1, 3, 7, 9}, data: "b"}
		seen := 0
		for range merged(partsOf(a, b)) {
			seen++
			if seen == n+1 {
				break
			}
		}
		if seen != n+1 || a.asked != want[0] || b.asked != want[1] || !a.ended || !b.ended {
			t.Errorf("ended at record %d: asked for %d and %d, want %v; ended: %t, %t", n, a.asked, b.asked, want, a.ended, b.ended)
		}
	}
}

// Nothing is asked for till the merged records are gone through.
func TestMergedWaits(t *testing.T) {
	a := &tap{blocks: []int{0}}
	merged(partsOf(a))
	held(a.records)
	if a.asked != 0 {
		t.Errorf("asked for %d", a.asked)
	}
}

// What one of the iterators gives up comes out, and the others have ended by then.
func TestMergedGivesUp(t *testing.T) {
	for at := range 3 {
		for _, fault := range []any{api.ErrFile, "another fault"} {
			taps := []*tap{{blocks: []int{0, 3}}, {blocks: []int{1, 4}}, {blocks: []int{2, 5}}}
			taps[at].fault = fault
			func() {
				defer func() {
					if got := recover(); got != fault {
						t.Errorf("the panic %v has become %v", fault, got)
					}
				}()
				blocksOf(merged(partsOf(taps...)))
			}()
			for i, p := range taps {
				// Those that were not begun yet need not end.
				if p.asked > 0 && !p.ended {
					t.Errorf("the fault of %d: iterator %d has not ended", at, i)
				}
			}
		}
	}
	early := &tap{fault: api.ErrSum}
	if answer, e := atFace(func() []api.Record { return slices.Collect(merged(partsOf(&tap{blocks: []int{0}}, early))) }); answer != nil || e != api.ErrSum {
		t.Errorf("atFace = %v, %d", answer, e)
	}
}

// What is Free is left out, and the iterator ends with yield.
func TestHeld(t *testing.T) {
	list := []api.Record{{Free: true}, {Block: 1, Data: "a"}, {Free: true, Block: 2}, {Free: true, Block: 3}, {Block: 4, Data: "b"}, {Free: true, Block: 5}}
	if got := slices.Collect(held(slices.Values(list))); !slices.Equal(got, []api.Record{list[1], list[4]}) {
		t.Errorf("held = %v", got)
	}
	a := &tap{blocks: []int{0, 1, 2}}
	for range held(a.records) {
		break
	}
	if a.asked != 1 || !a.ended {
		t.Errorf("ended at the first, it asked for %d", a.asked)
	}
}
