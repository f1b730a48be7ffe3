package stream

import (
	"errors"
	"hash/crc32"
	"slices"
	"strings"
	"testing"

	"strand/api"
)

// example is a text of three records, of 4, 3 and 4 bytes.
func example(t *testing.T) string {
	t.Helper()
	text, e := Serialize(api.Stream{From: 1, To: 2, Blocks: 9, Size: 1, Records: []api.Record{{Data: "a"}, {Free: true, Block: 2}, {Block: 8, Data: "b"}}})
	if e != api.OK {
		t.Fatal(e)
	}
	return text
}

// The iterator has read no further than the record at which yield told false.
func TestRecordsEndWithYield(t *testing.T) {
	text := example(t)
	for n, want := range []int{headBytes + 4, headBytes + 7, headBytes + 11} {
		in := &reader{text: text}
		seen := 0
		h := in.head()
		for range in.records(h, h.many) {
			seen++
			if seen == n+1 {
				break
			}
		}
		if in.at != want {
			t.Errorf("ended at record %d: %d bytes are read, want %d", n, in.at, want)
		}
	}
	in := &reader{text: text}
	h := in.head()
	for range in.records(h, h.many) {
	}
	if in.at != len(text) {
		t.Errorf("gone through all: %d bytes are read, want %d", in.at, len(text))
	}
}

// So has the one over the records of an unsorted text; and only behind the last of them it asks whether the text ends.
func TestUnsortedEndWithYield(t *testing.T) {
	text := unsortedMagic + example(t)[len(unsortedMagic):]
	for n, want := range []int{headBytes + 4, headBytes + 7, headBytes + 11} {
		in := &reader{text: text}
		seen := 0
		for range in.unsorted(in.unsortedHead()) {
			seen++
			if seen == n+1 {
				break
			}
		}
		if in.at != want {
			t.Errorf("ended at record %d: %d bytes are read, want %d", n, in.at, want)
		}
	}
	if list, e := atFace(func() []api.Record {
		in := &reader{text: text}
		return slices.Collect(in.unsorted(in.unsortedHead()))
	}); list != nil || e != api.ErrRest {
		t.Errorf("gone through all: %v, %d", list, e)
	}
}

// The records of chunks come one behind the other, and no further than they are asked for.
func TestInTurn(t *testing.T) {
	list := []chunk{{}, {records: []api.Record{{Block: 1}, {Block: 2}}}, {}, {records: []api.Record{{Block: 0}}}, {records: []api.Record{{Block: 7}}}, {}}
	if blocks, _ := blocksOf(inTurn(list)); !slices.Equal(blocks, []int{1, 2, 0, 7}) {
		t.Errorf("inTurn = %v", blocks)
	}
	for n := range 5 {
		if got := slices.Collect(first(n, inTurn(list))); len(got) != n {
			t.Errorf("the first %d: %v", n, got)
		}
	}
	if blocks, _ := blocksOf(inTurn(nil)); blocks != nil {
		t.Errorf("inTurn of nothing = %v", blocks)
	}
}

// Nothing is read till the iterator is gone through.
func TestRecordsWait(t *testing.T) {
	in := &reader{text: example(t)[:headBytes]}
	h := in.head()
	in.records(h, h.many)
	in.loose(h, h.many)
	in.unsorted(h)
	for range first(0, in.records(h, h.many)) {
		t.Error("there is a record")
	}
	if in.at != headBytes {
		t.Errorf("%d bytes are read", in.at)
	}
}

// What is made of an iterator ends with yield, too.
func TestFirstAndBehind(t *testing.T) {
	list := []api.Record{{Block: 0}, {Block: 1}, {Block: 2}, {Block: 3}}
	for n := range 6 {
		if got := slices.Collect(first(n, slices.Values(list))); !slices.Equal(got, list[:min(n, 4)]) {
			t.Errorf("first %d = %v", n, got)
		}
		if got := slices.Collect(behind(n, slices.Values(list))); !slices.Equal(got, list[min(n, 4):]) {
			t.Errorf("behind %d = %v", n, got)
		}
	}
	asked := 0
	counted := func(yield func(api.Record) bool) {
		for _, r := range list {
			asked++
			if !yield(r) {
				return
			}
		}
	}
	for range first(2, counted) {
	}
	if asked != 2 {
		t.Errorf("first 2 asked for %d", asked)
	}
	asked = 0
	for range first(3, behind(1, counted)) {
		break
	}
	if asked != 2 {
		t.Errorf("ended at the second, it asked for %d", asked)
	}
}

// An error's number that is given up becomes the answer; no other panic is kept quiet.
func TestAtFace(t *testing.T) {
	if answer, e := atFace(func() string { return "x" }); answer != "x" || e != api.OK {
		t.Errorf("atFace = %q, %d", answer, e)
	}
	if answer, e := atFace(func() string { panic(api.ErrSum) }); answer != "" || e != api.ErrSum {
		t.Errorf("atFace = %q, %d", answer, e)
	}
	fault := errors.New("a fault")
	for _, other := range []any{fault, "a fault", 7} {
		func() {
			defer func() {
				if got := recover(); got != other {
					t.Errorf("the panic %v has become %v", other, got)
				}
			}()
			atFace(func() string { panic(other) })
		}()
	}
}

// The check is the library's CRC-32.
func TestCheck(t *testing.T) {
	if check("123456789") != 0xcbf43926 {
		t.Errorf("check = %x", check("123456789"))
	}
	for _, s := range []string{"", "\x00", "\xff", "a", "\x00\x00\x00\x00", example(t), strings.Repeat("\x80\x01", 5000)} {
		if got, want := check(s), crc32.ChecksumIEEE([]byte(s)); got != want {
			t.Errorf("check(%.40q) = %x, want %x", s, got, want)
		}
	}
}
