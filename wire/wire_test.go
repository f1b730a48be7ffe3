package wire

import (
	"errors"
	"hash/crc32"
	"iter"
	"slices"
	"strings"
	"testing"

	"strand/api"
)

// three are records of 4, 3 and 4 bytes.
func three() []api.Record {
	return []api.Record{{Data: "a"}, {Free: true, Block: 2}, {Block: 8, Data: "b"}}
}

// joinedText is a text whose pieces are put together.
func joinedText(magic string, records []api.Record) string {
	h := Head{From: 1, To: 2, Blocks: 9, Size: 1, Many: len(records)}
	return strings.Join(slices.Collect(Text(HeadText(magic, h), slices.Values(records))), "")
}

// ended goes through so many records.
func ended(records iter.Seq[api.Record], n int) {
	seen := 0
	for range records {
		seen++
		if seen == n {
			break
		}
	}
}

// The iterator has read no further than the record at which yield told false.
func TestRecordsEndWithYield(t *testing.T) {
	text := joinedText(StreamMagic, three())
	for n, want := range []int{HeadBytes + 4, HeadBytes + 7, HeadBytes + 11, len(text)} {
		in := OverText(text)
		h := in.Head()
		ended(in.Records(h, h.Many), n+1)
		if in.at != want {
			t.Errorf("ended at record %d: %d bytes are read, want %d", n, in.at, want)
		}
	}
}

// So has the one over the records of an unsorted text; and only behind the last of them it asks whether the text ends.
func TestUnsortedEndsWithYield(t *testing.T) {
	text := joinedText(UnsortedMagic, three())
	for n, want := range []int{HeadBytes + 4, HeadBytes + 7, HeadBytes + 11} {
		in := OverText(text)
		ended(in.Unsorted(in.UnsortedHead()), n+1)
		if in.at != want {
			t.Errorf("ended at record %d: %d bytes are read, want %d", n, in.at, want)
		}
	}
	in := OverText(text)
	if e := Caught(func() { ended(in.Unsorted(in.UnsortedHead()), 4) }); e != api.ErrRest {
		t.Errorf("gone through all: %d", e)
	}
}

// So has the one over records alone, which ends with the bytes.
func TestBare(t *testing.T) {
	text := joinedText(StreamMagic, three())
	text = text[HeadBytes : len(text)-CheckBytes]
	if got := slices.Collect(OverText(text).Bare(1)); !slices.Equal(got, three()) {
		t.Errorf("Bare = %v", got)
	}
	if got := slices.Collect(OverText("").Bare(1)); got != nil {
		t.Errorf("Bare of nothing = %v", got)
	}
	for n, want := range []int{4, 7, 11} {
		in := OverText(text)
		ended(in.Bare(1), n+1)
		if in.at != want {
			t.Errorf("ended at record %d: %d bytes are read, want %d", n, in.at, want)
		}
	}
}

// Nothing is read till an iterator is gone through.
func TestRecordsWait(t *testing.T) {
	in := OverText(joinedText(StreamMagic, three())[:HeadBytes])
	h := in.Head()
	in.Records(h, h.Many)
	in.loose(h, h.Many)
	in.Unsorted(h)
	in.Bare(h.Size)
	if in.at != HeadBytes {
		t.Errorf("%d bytes are read", in.at)
	}
}

// What is not there is not asked for, wherever the bytes end; and what is asked for comes one behind the other.
func TestOverAsksInTurn(t *testing.T) {
	whole := joinedText(StreamMagic, three())
	for n := range len(whole) + 1 {
		text, next := whole[:n], 0
		in := Over(n, func(at, n int) string {
			if at != next || n <= 0 || n > len(text)-at {
				t.Fatalf("of %d bytes, %d at %d are asked for behind %d", len(text), n, at, next)
			}
			next += n
			return text[at : at+n]
		})
		e := Caught(func() {
			h := in.Head()
			ended(in.Records(h, h.Many), 99)
		})
		if (e == api.OK) != (n == len(whole)) || e != api.OK && e != api.ErrShort {
			t.Errorf("of %d bytes: %d", n, e)
		}
	}
}

// What the bytes give up comes out as it is.
func TestOverGivesUp(t *testing.T) {
	in := Over(100, func(at, n int) string { panic(api.ErrFile) })
	for _, do := range []func(){func() { in.Head() }, func() { in.UnsortedHead() }, func() { ended(in.Bare(1), 1) }} {
		if e := Caught(do); e != api.ErrFile {
			t.Errorf("given up with %d", e)
		}
	}
}

// A text ends with yield, at each of its pieces, and asks for no more records then.
func TestTextEndsWithYield(t *testing.T) {
	for n := range 5 {
		p := &tap{blocks: []int{0, 2, 8}}
		seen := 0
		for range Text("head", p.records) {
			seen++
			if seen == n+1 {
				break
			}
		}
		if seen != n+1 || p.asked != min(n, 3) {
			t.Errorf("ended at piece %d: %d are seen, %d records are asked for", n, seen, p.asked)
		}
	}
}

// An error's number that is given up becomes the answer; no other panic is kept quiet.
func TestCaught(t *testing.T) {
	done := false
	if e := Caught(func() { done = true }); !done || e != api.OK {
		t.Errorf("Caught = %d, done: %t", e, done)
	}
	for e := api.ErrArg; e <= api.ErrQuota; e++ {
		if got := Caught(func() { panic(e) }); got != e {
			t.Errorf("Caught = %d, want %d", got, e)
		}
	}
	for _, other := range []any{errors.New("a fault"), "a fault", 7} {
		func() {
			defer func() {
				if got := recover(); got != other {
					t.Errorf("the panic %v has become %v", other, got)
				}
			}()
			Caught(func() { panic(other) })
		}()
	}
}

// The check is the library's CRC-32, however the bytes are cut.
func TestCheck(t *testing.T) {
	if got := begun.behind("123456789").check(); got != 0xcbf43926 {
		t.Errorf("check = %x", got)
	}
	for _, s := range []string{"", "\x00", "\xff", "a", "\x00\x00\x00\x00", joinedText(StreamMagic, three()), strings.Repeat("\x80\x01", 5000)} {
		want := crc32.ChecksumIEEE([]byte(s))
		for _, at := range []int{0, len(s) / 3, len(s)} {
			if got := begun.behind(s[:at]).behind(s[at:]).check(); got != want {
				t.Errorf("check(%.40q) = %x, want %x", s, got, want)
			}
		}
	}
}
