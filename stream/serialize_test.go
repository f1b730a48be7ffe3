package stream_test

import (
	"math"
	"strings"
	"testing"

	"strand/api"
	"strand/stream"
)

// P4: what is written.
func TestSerializeWrites(t *testing.T) {
	for _, p := range pairs() {
		if text, e := stream.Serialize(p.s); e != api.OK || text != p.text {
			t.Errorf("Serialize(%#v) = %.80q, %d, want %.80q", p.s, text, e, p.text)
		}
	}
}

// P4: no records may be nil or not.
func TestSerializeNoRecords(t *testing.T) {
	want := summed(headText(3, 4, 5, 6, 0))
	for _, records := range [][]api.Record{nil, {}, exampleStream().Records[:0]} {
		if text, e := stream.Serialize(api.Stream{From: 3, To: 4, Blocks: 5, Size: 6, Records: records}); e != api.OK || text != want {
			t.Errorf("Serialize with the records %#v = %q, %d", records, text, e)
		}
	}
}

// notMade asks of Serialize ErrStream, and nothing beside it.
func notMade(t *testing.T, s api.Stream) {
	t.Helper()
	if text, e := stream.Serialize(s); e != api.ErrStream || text != "" {
		t.Errorf("Serialize(%#v) = %.80q, %d, want ErrStream", s, text, e)
	}
}

// beyond are numbers that no field may have; some would be right ones, cut to two or four bytes.
var beyond = []int{-1, -2, math.MinInt, math.MinInt + 1, math.MinInt32, math.MaxInt, math.MaxInt - 1, 1 << 31, 1 << 32, 1<<32 + 1, 1<<32 + 2, 1 << 62}

// P4: each limit of a head, and one beyond it; negative and very great numbers.
func TestSerializeHead(t *testing.T) {
	good := api.Stream{From: 1, To: 2, Blocks: 3, Size: 4}
	with := func(change func(s *api.Stream)) api.Stream {
		s := good
		change(&s)
		return s
	}
	for _, n := range beyond {
		notMade(t, with(func(s *api.Stream) { s.From = n }))
		notMade(t, with(func(s *api.Stream) { s.To = n }))
		notMade(t, with(func(s *api.Stream) { s.Blocks = n }))
		notMade(t, with(func(s *api.Stream) { s.Size = n }))
	}
	notMade(t, api.Stream{})
	notMade(t, with(func(s *api.Stream) { s.To = 0 }))
	notMade(t, with(func(s *api.Stream) { s.From, s.To = 0, 0 }))
	notMade(t, with(func(s *api.Stream) { s.From = 2 }))
	notMade(t, with(func(s *api.Stream) { s.From, s.To = api.MaxId, api.MaxId }))
	for _, n := range []int{0, 101, 256, 65536, 65537} {
		notMade(t, with(func(s *api.Stream) { s.Blocks = n }))
	}
	for _, n := range []int{0, 65, 256, 65536, 65537} {
		notMade(t, with(func(s *api.Stream) { s.Size = n }))
	}
	for _, s := range []api.Stream{
		{From: 0, To: 1, Blocks: 1, Size: 1}, {From: 0, To: api.MaxId, Blocks: 100, Size: 64}, {From: api.MaxId, To: 1, Blocks: 100, Size: 1}, {From: 2, To: 1, Blocks: 1, Size: 64},
	} {
		want := summed(headText(s.From, s.To, s.Blocks, s.Size, 0))
		if text, e := stream.Serialize(s); e != api.OK || text != want {
			t.Errorf("Serialize(%#v) = %q, %d, want %q", s, text, e, want)
		}
	}
}

// P4: records that may not be.
func TestSerializeRecords(t *testing.T) {
	with := func(records ...api.Record) api.Stream {
		return api.Stream{From: 1, To: 2, Blocks: 4, Size: 2, Records: records}
	}
	for _, n := range append([]int{4, 5, 100, 256, 65535, 65536, 65537}, beyond...) {
		notMade(t, with(freed(n)))
		notMade(t, with(wrote(n, "ab")))
		notMade(t, with(freed(1), freed(n)))
	}
	for _, data := range []string{"", "a", "abc", strings.Repeat("a", 64), strings.Repeat("a", 65538)} {
		notMade(t, with(wrote(1, data)))
		notMade(t, with(freed(0), wrote(1, data), freed(2)))
	}
	for _, data := range []string{"a", "ab", "\x00\x00"} {
		notMade(t, with(api.Record{Free: true, Block: 1, Data: data}))
	}
	notMade(t, with(freed(1), freed(1)))
	notMade(t, with(wrote(1, "ab"), wrote(1, "ab")))
	notMade(t, with(wrote(1, "ab"), freed(1)))
	notMade(t, with(freed(1), freed(0)))
	notMade(t, with(freed(0), freed(2), freed(1)))
	notMade(t, with(freed(0), freed(1), freed(2), freed(3), freed(3)))
	notMade(t, with(freed(0), freed(1), freed(2), freed(3), freed(4)))
	notMade(t, with(make([]api.Record, 100000)...))
	notMade(t, with(make([]api.Record, 65537)...))
	for _, p := range []pair{made(1, 2, 4, 2, freed(3)), made(1, 2, 4, 2, freed(0), freed(1), freed(2), wrote(3, "ab"))} {
		if text, e := stream.Serialize(p.s); e != api.OK || text != p.text {
			t.Errorf("Serialize(%#v) = %q, %d", p.s, text, e)
		}
	}
}
