package stream_test

import (
	"math"
	"slices"
	"testing"

	"strand/api"
	"strand/stream"
)

// reach is how many records Some must read, and whether it must read the check too; reckoned in floats, which do not wrap round.
func reach(from, many, there int) (int, bool) {
	if float64(from)+float64(many) >= float64(there) {
		return there, true
	}
	return from + many, false
}

// recordBytes is how many bytes the first n records have.
func recordBytes(s api.Stream, n int) int {
	sum := 0
	for _, r := range s.Records[:n] {
		sum += 3 + len(r.Data)
	}
	return sum
}

// numbers are those that from and many are tried with.
var numbers = []int{0, 1, 2, 3, 4, 5, 6, 99, 100, 101, 65536, math.MaxInt32, math.MaxInt - 4, math.MaxInt - 1, math.MaxInt}

// askSome asks Some for records, and holds the answer against these.
func askSome(t *testing.T, text string, from, many int, want []api.Record, wantErr api.Errno) {
	t.Helper()
	got, e := stream.Some(text, from, many)
	if e != wantErr || !slices.Equal(got, want) || e != api.OK && got != nil {
		t.Fatalf("Some(%.80q, %d, %d) = %#v, %d, want %#v, %d", text, from, many, got, e, want, wantErr)
	}
}

// P10: the records, from one on, as many as are asked for or as there are.
func TestSomeTells(t *testing.T) {
	for _, p := range pairs() {
		for _, from := range numbers {
			for _, many := range numbers {
				end, _ := reach(from, many, len(p.s.Records))
				askSome(t, p.text, from, many, p.s.Records[min(from, end):end], api.OK)
			}
		}
	}
}

// P10: a number below 0 is told ahead of all else.
func TestSomeBelowZero(t *testing.T) {
	for _, n := range []int{-1, -2, math.MinInt32, math.MinInt + 1, math.MinInt} {
		for _, text := range []string{exampleText, "", "x", headText(1, 1, 1, 1, 1)} {
			askSome(t, text, n, 0, nil, api.ErrArg)
			askSome(t, text, 0, n, nil, api.ErrArg)
			askSome(t, text, n, n, nil, api.ErrArg)
			askSome(t, text, math.MaxInt, n, nil, api.ErrArg)
			askSome(t, text, n, math.MaxInt, nil, api.ErrArg)
		}
	}
}

// P10: of a text that ends anywhere just what is asked for must be there; what stands behind it does not matter.
func TestSomeReadsNoFurther(t *testing.T) {
	for _, p := range pairs() {
		if len(p.text) > 100 {
			continue
		}
		for _, from := range numbers {
			for _, many := range numbers {
				end, all := reach(from, many, len(p.s.Records))
				want := p.s.Records[min(from, end):end]
				need := 18 + recordBytes(p.s, end)
				if all {
					need = len(p.text)
				}
				for n := range p.text {
					if n < need {
						askSome(t, p.text[:n], from, many, nil, api.ErrShort)
					} else {
						askSome(t, p.text[:n], from, many, want, api.OK)
						askSome(t, p.text[:n]+"\x00", from, many, want, api.OK)
						askSome(t, p.text[:n]+"\xff\xff\xff\xff\xff\xff", from, many, want, api.OK)
					}
				}
				if all {
					askSome(t, p.text+"x", from, many, nil, api.ErrRest)
				} else {
					askSome(t, p.text+"x", from, many, want, api.OK)
				}
			}
		}
	}
}

// P10: the errors of what is read: also of the records ahead of from.
func TestSomeErrors(t *testing.T) {
	h := headText(1, 2, 9, 1, 4)
	one, three := h+writes(0, "a"), h+writes(0, "a")+frees(2)+writes(3, "b")
	list := []api.Record{wrote(0, "a"), freed(2), wrote(3, "b"), freed(8)}
	whole := three + frees(8)
	for _, c := range []struct {
		text       string
		from, many int
		want       []api.Record
		e          api.Errno
	}{
		{"STRD", 0, 0, nil, api.ErrShort}, {"xxxx" + h[4:17], 0, 0, nil, api.ErrShort}, {"STRC" + h[4:], 0, 0, nil, api.ErrMagic}, {headText(2, 2, 9, 1, 4), 0, 0, nil, api.ErrHead}, {headText(1, 2, 3, 1, 4), 0, 0, nil, api.ErrHead},
		{h, 0, 0, nil, api.OK}, {h + "\x00", 0, 0, nil, api.OK}, {h, 0, 1, nil, api.ErrShort}, {h, 1, 0, nil, api.ErrShort}, {h, 9, 0, nil, api.ErrShort}, {h + "\x00", 0, 1, nil, api.ErrKind}, {h + "\x00", 1, 0, nil, api.ErrKind},
		{one + "\x00", 0, 1, list[:1], api.OK}, {one + "\x00", 1, 0, nil, api.OK}, {one + "\x00", 1, 1, nil, api.ErrKind}, {one + "\x00", 2, 0, nil, api.ErrKind}, {one + "\x00", 0, 2, nil, api.ErrKind},
		{one + frees(0), 0, 1, list[:1], api.OK}, {one + frees(0), 0, 2, nil, api.ErrOrder}, {one + frees(0), 2, 0, nil, api.ErrOrder}, {one + frees(9), 1, 1, nil, api.ErrOrder}, {one + writes(9, ""), 1, 1, nil, api.ErrShort},
		{three, 1, 2, list[1:3], api.OK}, {three, 3, 0, nil, api.OK}, {three, 3, 1, nil, api.ErrShort}, {three, 0, math.MaxInt, nil, api.ErrShort}, {three, math.MaxInt, math.MaxInt, nil, api.ErrShort},
		{whole, 0, 3, list[:3], api.OK}, {whole, 0, 4, nil, api.ErrShort}, {whole, 4, 0, nil, api.ErrShort}, {whole + "abcd", 0, 3, list[:3], api.OK}, {whole + "abcd", 3, 1, nil, api.ErrSum}, {whole + "abcd", 5, 5, nil, api.ErrSum}, {whole + "abcde", 3, 1, nil, api.ErrSum},
		{summed(whole) + "x", 3, 1, nil, api.ErrRest}, {summed(whole) + "x", 3, 0, nil, api.OK}, {summed(whole), 3, 1, list[3:], api.OK},
		{headText(1, 2, 9, 1, 0), 0, 0, nil, api.ErrShort}, {headText(1, 2, 9, 1, 0) + "abcd", 0, 0, nil, api.ErrSum}, {summed(headText(1, 2, 9, 1, 0)) + "x", 0, 0, nil, api.ErrRest}, {summed(headText(1, 2, 9, 1, 0)), 0, 0, nil, api.OK},
	} {
		askSome(t, c.text, c.from, c.many, c.want, c.e)
	}
}
