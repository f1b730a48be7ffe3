package tool

import (
	"iter"
	"slices"
	"strconv"
	"strings"
	"testing"

	"strand/api"
	"strand/files"
	"strand/wire"
)

// counted is an iterator over records of the blocks from 0 to n-1, which counts how many it was asked for.
func counted(n int, asked *int) iter.Seq[api.Record] {
	return func(yield func(api.Record) bool) {
		for b := range n {
			*asked++
			if !yield(api.Record{Block: b, Data: "x"}) {
				return
			}
		}
	}
}

// Lists have as many records as they may, but the last, and are told before more is asked for.
func TestLists(t *testing.T) {
	for n := range 12 {
		for most := 1; most < 6; most++ {
			asked, seen := 0, 0
			for list := range lists(counted(n, &asked), most) {
				seen += len(list)
				if asked != seen || len(list) > most || len(list) == 0 || len(list) < most && seen != n {
					t.Errorf("%d by %d: a list of %d, %d are seen, %d asked for", n, most, len(list), seen, asked)
				}
			}
			if seen != n {
				t.Errorf("%d by %d: %d are seen", n, most, seen)
			}
			asked = 0
			for range lists(counted(n, &asked), most) {
				break
			}
			if asked != min(n, most) {
				t.Errorf("%d by %d: ended at the first, %d are asked for", n, most, asked)
			}
		}
	}
}

// newSorter sorts on files of its own.
func newSorter(fan int) *sorter {
	return &sorter{desk: &desk{files: files.New(1 << 20)}, out: "out", size: 1, fan: fan}
}

// Runs are files of their own of less than budget records.
func TestRunsAreLaidDown(t *testing.T) {
	for n := range 30 {
		for budget := 2; budget < 9; budget++ {
			asked := 0
			s := newSorter(2)
			runs := s.sorted(counted(n, &asked), budget)
			all := 0
			for i, name := range runs {
				many := s.files.Size(name) / 4
				all += many
				if many >= budget || many != budget-1 && i < len(runs)-1 {
					t.Errorf("%d records, Budget %d: %s has %d", n, budget, name, many)
				}
			}
			if all != n || len(s.files.List()) != len(runs) || len(s.made) != len(runs) {
				t.Errorf("%d records, Budget %d: %d in %d runs, the files %q", n, budget, all, len(runs), s.files.List())
			}
		}
	}
}

// Of runs that were merged the later counts, what they were made of is taken away, and there are so many fewer.
func TestFewer(t *testing.T) {
	for fan := 2; fan <= api.MaxFan; fan++ {
		for n := 1; n < 70; n++ {
			s := newSorter(fan)
			var runs []string
			for i := range n {
				runs = append(runs, s.layRun(slices.Values([]api.Record{{Block: 0, Data: "?"}, {Block: 1 + i, Data: string([]byte{byte(i)})}, {Block: 99, Data: string([]byte{byte(i)})}})))
			}
			fewer := s.fewer(runs)
			if len(fewer) != (n+fan-1)/fan || len(s.files.List()) != len(fewer) || !slices.Equal(s.made, fewer) {
				t.Fatalf("%d runs, Fan %d: %q, the files %q, made %q", n, fan, fewer, s.files.List(), s.made)
			}
			for i, name := range fewer {
				list := slices.Collect(s.records(name))
				last := min(n, (i+1)*fan) - 1
				if want := last - i*fan + 3; len(list) != want || list[want-1].Data != string([]byte{byte(last)}) {
					t.Fatalf("%d runs, Fan %d: %s has %v", n, fan, name, list)
				}
			}
		}
	}
}

// An unsorted text is gone through anew each time, and no further than yield asks for.
func TestUnsortedAnew(t *testing.T) {
	d := &desk{files: files.New(0)}
	d.files.Put("in", "STRU\x00\x00\x00\x01\x00\x00\x00\x02\x00\x09\x00\x01\x00\x03"+"\x02\x00\x05"+"\x02\x00\x04"+"\x03")
	records := d.unsorted("in")
	for range 2 {
		seen := 0
		for range records {
			seen++
			if seen == 2 {
				break
			}
		}
		if seen != 2 {
			t.Errorf("%d records are seen", seen)
		}
	}
	if e := wire.Caught(func() { d.look("in") }); e != api.ErrKind {
		t.Errorf("gone through all: %d", e)
	}
}

// What was made is taken away behind every panic, and those that are no error's number are not kept quiet.
func TestClear(t *testing.T) {
	for _, given := range []any{api.ErrFile, api.ErrQuota, "a fault"} {
		f := files.New(1000)
		f.Put("kept", "kept")
		func() {
			defer func() {
				if got := recover(); got != given {
					t.Errorf("the panic %v has become %v", given, got)
				}
			}()
			d := &desk{files: f}
			defer d.clear()
			for i := range 5 {
				d.lay(numbered("x", i), strings.Repeat("x", i))
			}
			d.remove([]string{"x.2", "x.0"})
			panic(given)
		}()
		if list := f.List(); !slices.Equal(list, []string{"kept"}) || f.Left() != 996 {
			t.Errorf("behind %v: %q", given, list)
		}
	}
}

// A file that can't be taken away is tried again, some times; what is left then are those that failed to the end.
func TestClearTriesAgain(t *testing.T) {
	for n := 1; n < 5; n++ {
		for many := range n*tries + 2 {
			d := &desk{files: files.New(1000)}
			for i := range n {
				d.lay("x"+strconv.Itoa(i), "x")
			}
			if many > 0 {
				d.files.Fail(0, many)
			}
			d.clear()
			if want := max(0, many-n*(tries-1)); len(d.files.List()) != min(n, want) {
				t.Errorf("%d files, %d calls fail: %q are left", n, many, d.files.List())
			}
		}
	}
}

// What fails is told by its own number.
func TestDeskGivesUp(t *testing.T) {
	for _, c := range []struct {
		name string
		do   func(d *desk)
		want api.Errno
	}{
		{"read", func(d *desk) { d.read("a", 0, 1) }, api.ErrFile},
		{"create", func(d *desk) { d.create("b") }, api.ErrFile},
		{"write", func(d *desk) { d.write("a", "x") }, api.ErrFile},
		{"remove", func(d *desk) { d.remove([]string{"a"}) }, api.ErrFile},
		{"room", func(d *desk) { d.room(10) }, api.ErrQuota},
		{"lay", func(d *desk) { d.lay("b", "0123456789") }, api.ErrQuota},
		{"layAll", func(d *desk) { d.layAll("b", []string{"01234", "56789"}) }, api.ErrQuota},
	} {
		d := &desk{files: files.New(12)}
		d.files.Put("a", "abc")
		d.files.Fail(0, 1)
		if e := wire.Caught(func() { c.do(d) }); e != c.want || len(d.made) != 0 || d.files.Text("a") != "abc" {
			t.Errorf("%s gave up with %d, made %q", c.name, e, d.made)
		}
	}
}
