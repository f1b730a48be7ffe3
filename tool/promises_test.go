package tool_test

import (
	"maps"
	"math"
	"slices"
	"strconv"
	"testing"

	"strand/api"
	"strand/files"
	"strand/stream"
	"strand/tool"
)

// strangeNumbers are at the bounds and far from them.
var strangeNumbers = []int{math.MinInt, -1, 0, 1, 2, 3, 8, 9, 31, 33, 50, 51, 100, math.MaxInt}

// strangeFiles are files of all kinds, which may fail and have little room.
func strangeFiles(d *dice) *files.FS {
	f := files.New([]int{plenty, plenty, d.below(2000), 0, -5, math.MaxInt, math.MinInt}[d.below(7)])
	for name, text := range texts() {
		f.Put(name, text)
	}
	f.Put("", zero)
	f.Put("drawn", drawn(d, d.below(30), 1+d.below(9), 1+d.below(3)))
	f.Put("bent", bent(d, drawn(d, d.below(30), 1+d.below(9), 1+d.below(3))))
	f.Put("sorted", bent(d, long(d.below(20))))
	if d.below(4) == 0 {
		f.Put("out"+[]string{"", ".", ".7", "er"}[d.below(4)], "kept")
	}
	if d.below(2) == 0 {
		f.Fail(d.below(90)-3, d.below(12)-3)
	}
	return f
}

// strangeCommand is one that is sometimes done.
func strangeCommand(d *dice) api.Command {
	number := func(good int) int {
		if d.below(9) > 0 {
			return good
		}
		return strangeNumbers[d.below(len(strangeNumbers))]
	}
	names := []string{"zero", "ab", "cd", "raw", "p0", "p1", "", "drawn", "bent", "sorted", "nowhere"}
	c := api.Command{Kind: number(1 + d.below(6)), Out: []string{"out", "out", "out", "", "zero", ".", "\xff"}[d.below(7)], Limit: number(40), Budget: number(2 + d.below(6)), Fan: number(2 + d.below(3))}
	for range number(1) % 120 {
		c.In = append(c.In, names[d.below(len(names))])
	}
	if d.below(4) == 0 {
		c.In = slices.Clone([][]string{{"zero", "ab"}, {"zero", "ab", "cd"}, {"p1", "p0"}, {"ab", "cd"}}[d.below(4)])
	}
	return c
}

// P1 and P2: every command ends, does not panic, tells one of the errors, answers the same on the same files, and leaves In as it is.
func TestStrangeCommands(t *testing.T) {
	d := dice(9)
	count := map[api.Errno]int{}
	for range 20000 {
		seed := d
		f := strangeFiles(&d)
		seed2 := seed
		g := strangeFiles(&seed2)
		c := strangeCommand(&d)
		was, in := look(f), slices.Clone(c.In)
		e := tool.Run(f, c)
		count[e]++
		if again := tool.Run(g, c); again != e || !maps.Equal(look(g), look(f)) {
			t.Fatalf("Run(%+v) = %d, on the same files %d", c, e, again)
		}
		if !slices.Equal(c.In, in) {
			t.Fatalf("Run wrote into In: %q, which was %q", c.In, in)
		}
		if e < api.OK || e > api.ErrQuota || e == api.ErrStream || e == api.ErrFile && f.Failed() == 0 {
			t.Fatalf("Run(%+v) = %d, %d calls failed", c, e, f.Failed())
		}
		if e != api.OK && f.Stuck() == 0 && !maps.Equal(look(f), was) {
			t.Fatalf("Run(%+v) = %d: the files %q, were %q", c, e, look(f), was)
		}
	}
	for _, e := range []api.Errno{api.OK, api.ErrArg, api.ErrName, api.ErrFile, api.ErrQuota, api.ErrMagic, api.ErrChain, api.ErrWhole, api.ErrChunk} {
		if count[e] == 0 {
			t.Errorf("no command was answered with %d", e)
		}
	}
}

// P2: what stands behind In is not written into, its spare room neither.
func TestInStays(t *testing.T) {
	for _, c := range ordinary() {
		room := append(slices.Clone(c.In), "spare", "spare")
		was := slices.Clone(room)
		c.In = room[:len(c.In)]
		tool.Run(with(texts(), plenty), c)
		if !slices.Equal(room, was) {
			t.Errorf("behind In of kind %d there is %q, was %q", c.Kind, room, was)
		}
	}
}

// P2: what is written into In behind the command changes nothing of what it has done.
func TestInIsNotKept(t *testing.T) {
	for _, c := range ordinary() {
		f := with(texts(), plenty)
		made, want := inMemory(texts(), c)
		asked(t, f, c, want, made)
		clear(c.In)
		now := look(f)
		maps.DeleteFunc(now, func(name, text string) bool { return made[name] == text || texts()[name] == text })
		if len(now) > 0 {
			t.Errorf("kind %d: there are %q too", c.Kind, now)
		}
	}
}

// done runs a command that must be done.
func done(t *testing.T, f *files.FS, kind int, out string, in ...string) {
	t.Helper()
	if e := tool.Run(f, command(kind, out, in...)); e != api.OK {
		t.Fatalf("Run(%+v) = %d", command(kind, out, in...), e)
	}
}

// chain is files with so many streams that follow each other, drawn by dice, the first of them a whole one; and their names.
func chain(t *testing.T, d *dice, n int) (*files.FS, []string) {
	f := files.New(plenty)
	var names []string
	for i := range n {
		s := api.Stream{From: i, To: i + 1, Blocks: 6, Size: 1}
		for b := range 6 {
			switch d.below(3) {
			case 0:
				s.Records = append(s.Records, api.Record{Block: b, Data: string(rune('a' + d.below(26)))})
			case 1:
				if i > 0 {
					s.Records = append(s.Records, api.Record{Block: b, Free: true})
				}
			}
		}
		text, e := stream.Serialize(s)
		if e != api.OK {
			t.Fatal(e)
		}
		names = append(names, "s"+strconv.Itoa(i))
		f.Put(names[i], text)
	}
	return f, names
}

// applied is a volume behind the streams of these files, one after the other.
func applied(t *testing.T, f *files.FS, v []api.Cell, names ...string) []api.Cell {
	t.Helper()
	for _, name := range names {
		var e api.Errno
		if v, e = stream.Apply(f.Text(name), v); e != api.OK {
			t.Fatal(e)
		}
	}
	return v
}

// P14: applying what Compose and Squash lay down is applying the streams; and however they are put together first, the same comes of all.
func TestPutTogether(t *testing.T) {
	d := dice(10)
	for i := range 200 {
		n := 2 + i%7
		f, names := chain(t, &d, n)
		done(t, f, api.Compose, "all", names...)
		done(t, f, api.Squash, "whole", names...)
		v := make([]api.Cell, 6)
		want := applied(t, f, v, names...)
		for _, name := range []string{"all", "whole"} {
			if got := applied(t, f, v, name); !slices.Equal(got, want) {
				t.Fatalf("%s of %d: %v, want %v", name, n, got, want)
			}
		}
		at := 1 + d.below(n-1)
		done(t, f, api.Compose, "left", names[:at]...)
		done(t, f, api.Compose, "right", names[at:]...)
		done(t, f, api.Squash, "base", names[:at]...)
		done(t, f, api.Compose, "all2", "left", "right")
		done(t, f, api.Compose, "all3", append([]string{"left"}, names[at:]...)...)
		done(t, f, api.Squash, "whole2", "base", "right")
		done(t, f, api.Squash, "whole3", append([]string{"base"}, names[at:]...)...)
		for _, same := range [][]string{{"all", "all2", "all3"}, {"whole", "whole2", "whole3"}} {
			for _, name := range same {
				if f.Text(name) != f.Text(same[0]) {
					t.Fatalf("%s is %q, %s is %q", name, f.Text(name), same[0], f.Text(same[0]))
				}
			}
		}
	}
}

// P14: a text that is read is the text of what is read: alone, composed with nothing, split and joined, sorted once more, it stays.
func TestReadAndWritten(t *testing.T) {
	d := dice(11)
	for range 100 {
		f := files.New(plenty)
		f.Put("raw", drawn(&d, d.below(60), 1+d.below(100), 1+d.below(9)))
		done(t, f, api.Canon, "a", "raw")
		done(t, f, api.Verify, "", "a")
		done(t, f, api.Compose, "b", "a")
		f.Put("again", "STRU"+f.Text("a")[4:len(f.Text("a"))-4])
		done(t, f, api.Canon, "c", "again")
		s, e := stream.Parse(f.Text("a"))
		text, _ := stream.Serialize(s)
		if e != api.OK || text != f.Text("a") || f.Text("b") != text || f.Text("c") != text {
			t.Fatalf("%q has become %q, %q and %q", f.Text("a"), text, f.Text("b"), f.Text("c"))
		}
	}
}

// P14: the chunks of a stream, joined in any order, are the stream again.
func TestSplitAndJoined(t *testing.T) {
	d := dice(12)
	for range 200 {
		f := files.New(plenty)
		f.Put("raw", drawn(&d, d.below(60), 1+d.below(100), 1+d.below(9)))
		done(t, f, api.Canon, "a", "raw")
		if e := tool.Run(f, api.Command{Kind: api.Split, In: []string{"a"}, Out: "b", Limit: 40 + d.below(300)}); e != api.OK {
			t.Fatal(e)
		}
		names := slices.DeleteFunc(f.List(), func(name string) bool { return name[0] != 'b' })
		for i := range names {
			k := i + d.below(len(names)-i)
			names[i], names[k] = names[k], names[i]
		}
		done(t, f, api.Join, "c", names...)
		if f.Text("c") != f.Text("a") {
			t.Fatalf("%q has become %q", f.Text("a"), f.Text("c"))
		}
	}
}
