package tool_test

import (
	"math"
	"slices"
	"strconv"
	"strings"
	"testing"

	"strand/api"
	"strand/tool"
)

// P11: each command done: which files there are then, and their bytes, written out here.
func TestDone(t *testing.T) {
	both := summed(head("STRD", 1, 3, 4, 2, 2) + writes(0, "ab") + writes(3, "cd"))
	all := summed(head("STRD", 0, 3, 4, 2, 3) + writes(0, "ab") + writes(1, "xx") + writes(3, "cd"))
	freed := summed(head("STRD", 0, 2, 4, 2, 3) + writes(0, "ab") + writes(1, "xx") + frees(3))
	squashed := summed(head("STRD", 0, 2, 4, 2, 2) + writes(0, "ab") + writes(1, "xx"))
	for _, c := range []struct {
		c    api.Command
		made map[string]string
	}{
		{command(api.Verify, "", "ab"), nil},
		{command(api.Verify, "x", "zero"), nil},
		{command(api.Compose, "x", "ab"), map[string]string{"x": ab}},
		{command(api.Compose, "x", "ab", "cd"), map[string]string{"x": both}},
		{command(api.Compose, "x", "zero", "ab", "cd"), map[string]string{"x": all}},
		{command(api.Compose, "x", "zero", "ab"), map[string]string{"x": freed}},
		{command(api.Squash, "x", "zero", "ab"), map[string]string{"x": squashed}},
		{command(api.Squash, "x", "zero"), map[string]string{"x": zero}},
		{command(api.Split, "x", "ab"), map[string]string{"x.0": part0, "x.1": part1}},
		{command(api.Join, "x", "p0", "p1"), map[string]string{"x": ab}},
		{command(api.Join, "x", "p1", "p0"), map[string]string{"x": ab}},
		{command(api.Canon, "x", "raw"), map[string]string{"x": ab}},
	} {
		asked(t, with(texts(), plenty), c.c, api.OK, c.made)
	}
}

// P11: what a command has made stands in the way of the next of that name, and beside one of another.
func TestOneBehindTheOther(t *testing.T) {
	for _, c := range ordinary() {
		if c.Kind == api.Verify {
			continue
		}
		f := with(texts(), plenty)
		made, _ := inMemory(texts(), c)
		asked(t, f, c, api.OK, made)
		refuses(t, f, c, api.ErrName)
		c.Out = "y"
		made, _ = inMemory(texts(), c)
		asked(t, f, c, api.OK, made)
	}
}

// P11: the errors of the files' texts, of each kind, those of one file.
func TestTextErrors(t *testing.T) {
	list := texts()
	for name, text := range texts() {
		list[name+" short"] = text[:9]
		list[name+" cut"] = text[:len(text)-1]
		list[name+" more"] = text + "\x00"
		list[name+" head"] = text[:4] + "\xff" + text[5:]
		list[name+" sum"] = text[:len(text)-1] + "?"
		list[name+" kind"] = text[:18] + "\x03" + text[19:]
		list[name+" order"] = text[:19] + "\xff" + text[20:]
	}
	list["empty"] = ""
	count := map[int]map[api.Errno]int{}
	for _, kind := range kinds {
		count[kind] = map[api.Errno]int{}
		for name := range list {
			count[kind][agrees(t, list, command(kind, "out", name))]++
		}
	}
	for _, e := range []api.Errno{api.ErrShort, api.ErrMagic, api.ErrHead, api.ErrKind, api.ErrOrder, api.ErrRest} {
		for _, kind := range kinds {
			// Byte 18 of a chunk is of its number, so that these two are other faults there.
			if count[kind][e] == 0 && !(kind == api.Join && (e == api.ErrKind || e == api.ErrOrder)) {
				t.Errorf("no command of kind %d was answered with %d", kind, e)
			}
		}
	}
	for _, kind := range []int{api.Verify, api.Compose, api.Squash, api.Split, api.Join} {
		if count[kind][api.ErrSum] == 0 {
			t.Errorf("no command of kind %d was answered with ErrSum", kind)
		}
	}
}

// P11: several files: the error of the first that has one, in the order of In, ahead of what does not go together.
func TestErrorsInOrder(t *testing.T) {
	list := texts()
	list["short"] = "STR"
	list["magic"] = "?" + ab[1:]
	list["sum"] = ab[:29] + "?"
	list["half"] = part0[:30]
	list["torn"] = part0 + "?"
	for _, c := range []struct {
		kind int
		want api.Errno
		in   string
	}{
		{api.Compose, api.ErrShort, "ab short magic sum"},
		{api.Compose, api.ErrMagic, "ab magic short"},
		{api.Compose, api.ErrSum, "sum magic"},
		{api.Compose, api.ErrSum, "ab ab ab sum"},
		{api.Compose, api.ErrMagic, "ab raw"},
		{api.Compose, api.ErrChain, "ab zero"},
		{api.Compose, api.ErrChain, "ab ab"},
		{api.Compose, api.ErrChain, strings.Repeat("ab ", 15) + "ab"},
		{api.Squash, api.ErrShort, "ab short"},
		{api.Squash, api.ErrWhole, "ab"},
		{api.Squash, api.ErrWhole, "ab ab"},
		{api.Squash, api.ErrChain, "zero zero"},
		{api.Squash, api.ErrChain, "zero cd"},
		{api.Join, api.ErrShort, "p0 half torn"},
		{api.Join, api.ErrRest, "p0 torn half"},
		{api.Join, api.ErrMagic, "p0 p1 ab"},
		{api.Join, api.ErrChunk, "p0"},
		{api.Join, api.ErrChunk, "p0 p0"},
		{api.Join, api.ErrChunk, "p0 p1 p0"},
		{api.Join, api.ErrChunk, strings.Repeat("p0 ", 99) + "p0"},
		{api.Split, api.ErrMagic, "raw"},
		{api.Canon, api.ErrMagic, "ab"},
		{api.Verify, api.ErrMagic, "p0"},
	} {
		refuses(t, with(list, plenty), command(c.kind, "x", strings.Fields(c.in)...), c.want)
	}
}

// row is so many streams that follow each other, as files, and their names.
func row(n int) (list map[string]string, names []string) {
	list = map[string]string{}
	for i := range n {
		name := "s" + strconv.Itoa(i)
		names = append(names, name)
		list[name] = summed(head("STRD", i, i+1, 100, 1, 2) + writes(i, "a") + writes(i+1, "b"))
	}
	return list, names
}

// P11: as many files as may be, put together and joined.
func TestManyFiles(t *testing.T) {
	for n := 1; n <= 16; n++ {
		list, names := row(n)
		for _, kind := range []int{api.Compose, api.Squash} {
			if e := agrees(t, list, command(kind, "x", names...)); e != api.OK {
				t.Errorf("%d files: %d", n, e)
			}
		}
	}
	for _, n := range []int{1, 9, 10, 11, 99, 100} {
		f := with(map[string]string{"long": long(n)}, plenty)
		if e := tool.Run(f, api.Command{Kind: api.Split, In: []string{"long"}, Out: "c", Limit: 31}); e != api.OK {
			t.Fatalf("%d chunks: %d", n, e)
		}
		names := slices.DeleteFunc(f.List(), func(name string) bool { return name == "long" })
		slices.Reverse(names)
		asked(t, f, command(api.Join, "x", names...), api.OK, map[string]string{"x": long(n)})
	}
}

// long is a stream's text with so many records, all of which free.
func long(n int) string {
	text := head("STRD", 1, 2, 100, 1, n)
	for i := range n {
		text += frees(i)
	}
	return summed(text)
}

// P11: the limits of Split's command, and the names of its chunks, ten and more among them.
func TestSplit(t *testing.T) {
	for n := range 101 {
		list := map[string]string{"long": long(n)}
		for _, limit := range []int{28, 31, 33, 34, 40, 58, 61, 300, 328, 400} {
			c := api.Command{Kind: api.Split, In: []string{"long"}, Out: "x", Limit: limit}
			if e := agrees(t, list, c); (e == api.ErrLimit) != (n > 0 && limit < 31) || e != api.OK && e != api.ErrLimit {
				t.Fatalf("%d records, the limit %d: %d", n, limit, e)
			}
		}
	}
	f := with(map[string]string{"long": long(100)}, plenty)
	tool.Run(f, api.Command{Kind: api.Split, In: []string{"long"}, Out: "x", Limit: 31})
	for i := range 100 {
		name := "x." + strconv.Itoa(i)
		if want := summed(head("STRC", 1, 2, 100, 1, 100) + two(i) + two(100) + two(1) + frees(i)); f.Text(name) != want {
			t.Errorf("%s has %q, want %q", name, f.Text(name), want)
		}
	}
	if n := len(f.List()); n != 101 {
		t.Errorf("there are %d files", n)
	}
	for _, limit := range []int{math.MinInt, math.MinInt + 1, -1, 0, 1, 23, 24, 27, 28, 32} {
		refuses(t, with(texts(), plenty), api.Command{Kind: api.Split, In: []string{"ab"}, Out: "x", Limit: limit}, api.ErrLimit)
	}
	for _, limit := range []int{36, 37, 1000, math.MaxInt32, math.MaxInt - 1, math.MaxInt} {
		one := summed(head("STRC", 1, 2, 4, 2, 2) + two(0) + two(1) + two(2) + writes(0, "ab") + frees(3))
		asked(t, with(texts(), plenty), api.Command{Kind: api.Split, In: []string{"ab"}, Out: "x", Limit: limit}, api.OK, map[string]string{"x.0": one})
	}
}

// P11: of other kinds the limit is not looked at.
func TestLimitOfOthers(t *testing.T) {
	for _, c := range ordinary() {
		for _, limit := range []int{math.MinInt, -1, 0, math.MaxInt} {
			if c.Limit = limit; c.Kind != api.Split && agrees(t, texts(), c) != api.OK {
				t.Errorf("the limit %d of kind %d", limit, c.Kind)
			}
		}
	}
}
