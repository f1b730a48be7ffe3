package tool_test

import (
	"math"
	"slices"
	"testing"

	"strand/api"
	"strand/files"
	"strand/tool"
)

// most is how many names a command of each kind may have.
var most = map[int]int{api.Verify: 1, api.Compose: 16, api.Squash: 16, api.Split: 1, api.Join: 100, api.Canon: 1}

// P11: each cause of ErrArg by itself; on the same files the command without that cause is done.
func TestArg(t *testing.T) {
	for _, c := range ordinary() {
		agrees(t, texts(), c)
		f := with(texts(), plenty)
		if e := tool.Run(nil, c); e != api.ErrArg {
			t.Errorf("Run(nil, %+v) = %d", c, e)
		}
		for _, kind := range []int{0, -1, 7, 8, 100, math.MaxInt, math.MinInt} {
			d := c
			d.Kind = kind
			refuses(t, f, d, api.ErrArg)
		}
		d := c
		d.In = nil
		refuses(t, f, d, api.ErrArg)
		d.In = []string{}
		refuses(t, f, d, api.ErrArg)
		for _, n := range []int{most[c.Kind] + 1, most[c.Kind] + 2, 1000} {
			d.In = slices.Repeat([]string{"ab"}, n)
			refuses(t, f, d, api.ErrArg)
		}
		if d = c; c.Kind != api.Verify {
			d.Out = ""
			refuses(t, f, d, api.ErrArg)
		}
	}
	if e := tool.Run(nil, api.Command{}); e != api.ErrArg {
		t.Errorf("Run(nil, {}) = %d", e)
	}
	refuses(t, files.New(0), api.Command{}, api.ErrArg)
}

// P11: as many names as may be are no cause of ErrArg, and they are all looked at.
func TestMostNames(t *testing.T) {
	for kind, n := range most {
		f := with(texts(), plenty)
		c := command(kind, "x", slices.Repeat([]string{"nowhere"}, n)...)
		refuses(t, f, c, api.ErrName)
		c.In = append(slices.Repeat([]string{"ab"}, n-1), "nowhere")
		refuses(t, f, c, api.ErrName)
	}
}

// P11: Budget and Fan below, at and above their bounds; of other kinds than Canon they are not looked at.
func TestBudgetAndFan(t *testing.T) {
	for _, n := range []int{math.MinInt, -1, 0, 1, 2, 3, 8, 9, 49, 50, 51, math.MaxInt} {
		for _, c := range ordinary() {
			d := c
			d.Budget = n
			if c.Kind == api.Canon && (n < 2 || n > 50) {
				refuses(t, with(texts(), plenty), d, api.ErrArg)
			} else {
				agrees(t, texts(), d)
			}
			d = c
			d.Fan = n
			if c.Kind == api.Canon && (n < 2 || n > 8) {
				refuses(t, with(texts(), plenty), d, api.ErrArg)
			} else {
				agrees(t, texts(), d)
			}
			d.Budget = n
			if c.Kind == api.Canon && (n < 2 || n > 8) {
				refuses(t, with(texts(), plenty), d, api.ErrArg)
			}
		}
	}
}

// P1 and P11: ErrArg is told ahead of ErrName.
func TestArgAheadOfName(t *testing.T) {
	f := with(texts(), plenty)
	f.Put("x", "")
	for _, kind := range kinds {
		c := command(kind, "x", "nowhere")
		refuses(t, f, c, api.ErrName)
		d := c
		d.Kind = -kind
		refuses(t, f, d, api.ErrArg)
		d = c
		d.In = slices.Repeat(c.In, most[kind]+1)
		refuses(t, f, d, api.ErrArg)
		d.In = nil
		refuses(t, f, d, api.ErrArg)
		if d = c; kind != api.Verify {
			d.Out = ""
			refuses(t, f, d, api.ErrArg)
		}
		if kind == api.Canon {
			for _, bounds := range [][2]int{{1, 2}, {51, 2}, {2, 1}, {2, 9}, {0, 0}} {
				d = c
				d.Budget, d.Fan = bounds[0], bounds[1]
				refuses(t, f, d, api.ErrArg)
			}
		}
	}
}

// P11: a name of In that is no file, wherever it stands.
func TestNoFile(t *testing.T) {
	for _, c := range ordinary() {
		for i := range c.In {
			for _, name := range []string{"nowhere", "", "a", "abc", "ab.", "AB", "ab\x00", "."} {
				d := c
				d.In = slices.Clone(c.In)
				d.In[i] = name
				refuses(t, with(texts(), plenty), d, api.ErrName)
			}
		}
	}
	// Without any files, and behind a file that can't be read.
	for _, kind := range kinds {
		refuses(t, files.New(plenty), command(kind, "x", "ab"), api.ErrName)
		if most[kind] > 1 {
			f := with(map[string]string{"bad": "?"}, plenty)
			refuses(t, f, command(kind, "x", "bad", "nowhere"), api.ErrName)
		}
	}
	// The empty name is one like others, if there is such a file.
	agrees(t, map[string]string{"": ab}, command(api.Verify, "", ""))
	agrees(t, map[string]string{"": ab, "q": zero}, command(api.Compose, "x", "q", ""))
}

// P11: a file whose name is Out, or begins with Out and a dot, is a cause of ErrName; one that begins with Out otherwise is none.
func TestOutIsThere(t *testing.T) {
	for _, c := range ordinary() {
		for _, name := range []string{"x", "x.", "x.0", "x.1", "x.old", "x..", "x.\x00", "x.x.x"} {
			list := texts()
			list[name] = "kept"
			if c.Kind != api.Verify {
				refuses(t, with(list, plenty), c, api.ErrName)
				continue
			}
			// Verify does not look at Out.
			c.Out = "x"
			agrees(t, list, c)
		}
		for _, name := range []string{"xx", "x-", "x/", "x0", "x\x00", "x,1", "X", "X.0", "w.x.0", ".x", "."} {
			list := texts()
			list[name] = "kept"
			if e := agrees(t, list, c); e != api.OK {
				t.Errorf("with a file %q: %d", name, e)
			}
		}
	}
}

// P11: Out may be no file of In, nor what one of them begins with, up to a dot.
func TestOutOfIn(t *testing.T) {
	for _, c := range ordinary() {
		if c.Kind == api.Verify {
			for _, out := range []string{"ab", "a", "nowhere", "zero"} {
				c.Out = out
				agrees(t, texts(), c)
			}
			continue
		}
		for _, name := range c.In {
			d := c
			d.Out = name
			refuses(t, with(texts(), plenty), d, api.ErrName)
			list := texts()
			list["y."+name] = list[name]
			d.In = []string{"y." + name}
			d.Out = "y"
			refuses(t, with(list, plenty), d, api.ErrName)
			// What a name of In begins with otherwise is free.
			d = c
			d.Out = name[:1]
			agrees(t, texts(), d)
		}
	}
}

// P11: Out may have dots of its own, and any bytes.
func TestStrangeOut(t *testing.T) {
	for _, out := range []string{".", "..", "x.", "x.y", "x.0", "\x00", "\xff\xfe", "a b", "ab.", "\u00fc", "ab/ab"} {
		for _, c := range ordinary() {
			c.Out = out
			if want := agrees(t, texts(), c); want != api.OK {
				t.Errorf("Out %q: %d", out, want)
			}
		}
	}
}
