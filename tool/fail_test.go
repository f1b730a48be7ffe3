package tool_test

import (
	"maps"
	"strings"
	"testing"

	"strand/api"
	"strand/files"
	"strand/tool"
)

// forGood is more calls than any command here makes.
const forGood = 1 << 30

// failing are commands of each kind, on the files of failingTexts, those that are done and those that are refused.
func failing() []api.Command {
	small := command(api.Canon, "out", "drawn")
	small.Budget, small.Fan = 2, 3
	one := command(api.Canon, "out", "drawn")
	one.Budget, one.Fan = 50, 8
	refused := command(api.Split, "out", "ab")
	refused.Limit = 32
	list := []api.Command{
		small, one, refused,
		command(api.Canon, "out", "drawn"),
		command(api.Canon, "out", "none"),
		command(api.Canon, "out", "torn"),
		command(api.Canon, "out", "ab"),
		command(api.Verify, "out", "raw"),
		command(api.Split, "out", "sorted"),
		command(api.Compose, "out", "zero"),
		command(api.Compose, "out", "zero", "ab", "zero"),
		command(api.Squash, "out", "ab", "cd"),
		command(api.Join, "out", "p0", "p0"),
		command(api.Join, "out", "p1", "p0", "raw"),
	}
	for _, c := range ordinary() {
		c.Out = "out"
		list = append(list, c)
	}
	return list
}

// failingTexts are files for these commands, and some with names that are like Out.
func failingTexts(t *testing.T) map[string]string {
	d := dice(6)
	list := texts()
	list["drawn"] = drawn(&d, 17, 9, 3)
	list["sorted"] = canonOf(t, drawn(&d, 40, 40, 2))
	list["none"] = head("STRU", 1, 2, 3, 4, 0)
	list["torn"] = drawn(&d, 9, 9, 1) + "?"
	list["outer"] = "kept"
	list["o"] = "kept"
	list["out-0"] = ""
	return list
}

// outcome holds what is there behind a command against P12, and tells whether a file was left.
func outcome(t *testing.T, f *files.FS, c api.Command, e, want api.Errno, was, made map[string]string) bool {
	t.Helper()
	if e != want && (e != api.ErrFile || f.Failed() == 0) {
		t.Fatalf("Run(%+v) = %d, want %d; %d calls failed", c, e, want, f.Failed())
	}
	there := maps.Clone(was)
	if e == api.OK {
		maps.Copy(there, made)
	}
	now := look(f)
	left := false
	for name := range now {
		if _, ok := there[name]; !ok && f.Stuck() > 0 && strings.HasPrefix(name, c.Out) && c.Out != "" {
			left = true
			delete(now, name)
		}
	}
	if !maps.Equal(now, there) {
		t.Fatalf("Run(%+v) = %d, %d calls failed, %d of them Remove: the files %q, want %q", c, e, f.Failed(), f.Stuck(), now, there)
	}
	return left
}

// failed runs a command on fresh files that fail behind so many calls, so many times; whether they did, whether a file was left.
func failed(t *testing.T, c api.Command, list map[string]string, behind, many int) (bool, bool) {
	t.Helper()
	made, want := inMemory(list, c)
	f := with(list, plenty)
	room := f.Left()
	f.Fail(behind, many)
	e := tool.Run(f, c)
	left := outcome(t, f, c, e, want, list, made)
	if e != api.OK && !left && f.Left() != room {
		t.Fatalf("Run(%+v) = %d: there is room for %d bytes, was for %d", c, e, f.Left(), room)
	}
	if left {
		return true, true
	}
	// Where nothing was left, the command can be asked for again.
	if f.Calm(); e == api.ErrFile {
		if again := tool.Run(f, c); again != want {
			t.Fatalf("Run(%+v), again: %d, want %d", c, again, want)
		}
	}
	return f.Failed() > 0, false
}

// P12: each call in turn fails, once, several times together, and for good.
func TestEveryCallFails(t *testing.T) {
	list := failingTexts(t)
	for _, c := range failing() {
		for _, many := range []int{1, 2, 3, 4, 5, 9, forGood} {
			calls := 0
			for {
				more, left := failed(t, c, list, calls, many)
				if left && many < 3 {
					t.Errorf("Run(%+v) fails at %d, %d times: a file is left", c, calls, many)
				}
				if !more {
					break
				}
				calls++
			}
			if calls < len(c.In) {
				t.Errorf("Run(%+v) makes %d calls only", c, calls)
			}
		}
	}
}

// P12: a Remove that fails by itself is told, and neither Out nor a run is left where the next one works.
func TestRemoveFails(t *testing.T) {
	list := failingTexts(t)
	for _, c := range failing() {
		_, want := inMemory(list, c)
		if c.Kind != api.Canon || want != api.OK || c.In[0] == "none" {
			continue
		}
		stuck := 0
		for at := 0; ; at++ {
			f := with(list, plenty)
			f.Fail(at, 1)
			e := tool.Run(f, c)
			if f.Failed() == 0 {
				break
			}
			if f.Stuck() > 0 {
				stuck++
				if e != api.ErrFile || !maps.Equal(look(f), list) {
					t.Errorf("Run(%+v), a Remove fails at %d: %d, the files %q", c, at, e, f.List())
				}
			}
		}
		if stuck == 0 {
			t.Errorf("Run(%+v): no Remove was tried", c)
		}
	}
}

// Ways: runs are merged only while there are more of them than Fan. Which there have been, files that fail for good show, since nothing of them is taken away.
func TestMergedOnlyWhileTooMany(t *testing.T) {
	d := dice(7)
	list := map[string]string{"in": drawn(&d, 8, 100, 1)}
	// Eight runs of one record, and those that are merged of them: by 3, for one, three, and no more are needed.
	for fan, want := range map[int]int{8: 8, 7: 8 + 2, 4: 8 + 2, 3: 8 + 3, 2: 8 + 4 + 2} {
		seen := map[string]int{}
		c := api.Command{Kind: api.Canon, In: []string{"in"}, Out: "out", Budget: 2, Fan: fan}
		for at := 0; ; at++ {
			f := with(list, plenty)
			f.Fail(at, forGood)
			tool.Run(f, c)
			if f.Failed() == 0 {
				break
			}
			for _, name := range f.List() {
				seen[name]++
			}
		}
		delete(seen, "in")
		delete(seen, "out")
		if len(seen) != want {
			t.Errorf("Fan %d: %d runs, want %d", fan, len(seen), want)
		}
	}
}

// P12: where no call fails by Fail there is no ErrFile, whatever is wrong besides; nor is there if the failing calls are other ones.
func TestNoErrFile(t *testing.T) {
	list := failingTexts(t)
	for _, c := range failing() {
		f := with(list, plenty)
		f.Fail(0, 3)
		for range 3 {
			f.Remove("nowhere")
		}
		made, want := inMemory(list, c)
		asked(t, f, c, want, made)
		f = with(list, plenty)
		f.Fail(0, forGood)
		f.Calm()
		asked(t, f, c, want, made)
		// ErrArg and ErrName ask nothing of a file that may fail.
		f = with(list, plenty)
		f.Fail(0, forGood)
		d := c
		d.In = nil
		refuses(t, f, d, api.ErrArg)
		d.In = []string{"nowhere"}
		refuses(t, f, d, api.ErrName)
		if f.Failed() != 0 {
			t.Errorf("Run(%+v) has asked %d times", d, f.Failed())
		}
	}
}

// P12: the files fail and have little room at once.
func TestFailsWithLittleRoom(t *testing.T) {
	list := failingTexts(t)
	for _, c := range failing() {
		made, want := inMemory(list, c)
		for _, room := range []int{-9, 0, 1, 30, 60, 100, 200, 400} {
			f := with(list, room)
			without := tool.Run(f, c)
			if without != want && without != api.ErrQuota {
				t.Fatalf("Run(%+v) with room for %d = %d, want %d", c, room, without, want)
			}
			for _, many := range []int{1, 3, forGood} {
				for at := 0; ; at++ {
					f = with(list, room)
					f.Fail(at, many)
					e := tool.Run(f, c)
					outcome(t, f, c, e, without, list, made)
					if f.Failed() == 0 {
						break
					}
				}
			}
		}
	}
}
