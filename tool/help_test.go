package tool_test

import (
	"encoding/binary"
	"hash/crc32"
	"maps"
	"slices"
	"strconv"
	"strings"
	"testing"

	"strand/api"
	"strand/files"
	"strand/stream"
	"strand/tool"
)

// plenty is more room than any command here needs.
const plenty = 1 << 20

// two and four are numbers of two and four bytes.
func two(n int) string  { return string(binary.BigEndian.AppendUint16(nil, uint16(n))) }
func four(n int) string { return string(binary.BigEndian.AppendUint32(nil, uint32(n))) }

// summed is a text with its check behind it.
func summed(text string) string { return text + four(int(crc32.ChecksumIEEE([]byte(text)))) }

// head is the head of a stream's text, or of an unsorted one.
func head(magic string, from, to, blocks, size, many int) string {
	return magic + four(from) + four(to) + two(blocks) + two(size) + two(many)
}

// writes and frees are the texts of records.
func writes(block int, data string) string { return "\x01" + two(block) + data }
func frees(block int) string               { return "\x02" + two(block) }

// The texts with which the files begin: zero is a whole stream, ab follows it, cd follows ab; raw says what ab says.
var (
	zero  = summed(head("STRD", 0, 1, 4, 2, 2) + writes(1, "xx") + writes(3, "yy"))
	ab    = summed(head("STRD", 1, 2, 4, 2, 2) + writes(0, "ab") + frees(3))
	cd    = summed(head("STRD", 2, 3, 4, 2, 1) + writes(3, "cd"))
	raw   = head("STRU", 1, 2, 4, 2, 3) + frees(3) + writes(0, "xx") + writes(0, "ab")
	part0 = summed(head("STRC", 1, 2, 4, 2, 2) + two(0) + two(2) + two(1) + writes(0, "ab"))
	part1 = summed(head("STRC", 1, 2, 4, 2, 2) + two(1) + two(2) + two(1) + frees(3))
)

// texts are these texts by the names of their files.
func texts() map[string]string {
	return map[string]string{"zero": zero, "ab": ab, "cd": cd, "raw": raw, "p0": part0, "p1": part1}
}

// with are files of these texts, with room for so many bytes beside them.
func with(list map[string]string, left int) *files.FS {
	bytes := 0
	for _, text := range list {
		bytes += len(text)
	}
	f := files.New(bytes + left)
	for _, name := range slices.Sorted(maps.Keys(list)) {
		f.Put(name, list[name])
	}
	return f
}

// look is all files that there are.
func look(f *files.FS) map[string]string {
	list := map[string]string{}
	for _, name := range f.List() {
		list[name] = f.Text(name)
	}
	return list
}

// command is one of this kind, with all numbers set to such as may be.
func command(kind int, out string, in ...string) api.Command {
	return api.Command{Kind: kind, In: in, Out: out, Limit: 33, Budget: 3, Fan: 2}
}

// inMemory is what a command answers if nothing fails, and the files that it makes.
func inMemory(list map[string]string, c api.Command) (map[string]string, api.Errno) {
	var in []string
	for _, name := range c.In {
		in = append(in, list[name])
	}
	var text string
	var e api.Errno
	switch c.Kind {
	case api.Verify:
		_, e = stream.Parse(in[0])
		return nil, e
	case api.Split:
		chunks, e := stream.Split(in[0], c.Limit)
		made := map[string]string{}
		for i, chunk := range chunks {
			made[c.Out+"."+strconv.Itoa(i)] = chunk
		}
		return made, e
	case api.Compose:
		text, e = stream.Compose(in)
	case api.Squash:
		text, e = stream.Squash(in)
	case api.Join:
		text, e = stream.Join(in)
	case api.Canon:
		text, e = stream.Canon(in[0])
	}
	if e != api.OK {
		return nil, e
	}
	return map[string]string{c.Out: text}, e
}

// asked runs a command: this is the answer, and these files are there beside those that there were.
func asked(t *testing.T, f *files.FS, c api.Command, want api.Errno, made map[string]string) {
	t.Helper()
	all := look(f)
	maps.Copy(all, made)
	in := slices.Clone(c.In)
	if e := tool.Run(f, c); e != want {
		t.Fatalf("Run(%+v) = %d, want %d", c, e, want)
	}
	if now := look(f); !maps.Equal(now, all) {
		t.Fatalf("Run(%+v): the files %.500q, want %.500q", c, now, all)
	}
	if !slices.Equal(c.In, in) {
		t.Fatalf("Run wrote into In: %q, which was %q", c.In, in)
	}
}

// refuses runs a command that is refused: all files are as they were.
func refuses(t *testing.T, f *files.FS, c api.Command, want api.Errno) {
	t.Helper()
	asked(t, f, c, want, nil)
}

// agrees runs a command on fresh files: it does what the calls in memory do.
func agrees(t *testing.T, list map[string]string, c api.Command) api.Errno {
	t.Helper()
	made, want := inMemory(list, c)
	asked(t, with(list, plenty), c, want, made)
	return want
}

// dice is a row of numbers that look like chance, the same in every run.
type dice uint64

func (d *dice) below(n int) int {
	*d = *d*6364136223846793005 + 1442695040888963407
	return int(uint64(*d)>>33) % n
}

// drawn is an unsorted text of so many records, drawn by dice.
func drawn(d *dice, many, blocks, size int) string {
	text := head("STRU", 3, 4, blocks, size, many)
	for range many {
		if d.below(3) == 0 {
			text += frees(d.below(blocks))
		} else {
			text += writes(d.below(blocks), strings.Repeat(string([]byte{byte(d.below(256))}), size))
		}
	}
	return text
}

// canonOf is what Canon answers in memory.
func canonOf(t *testing.T, text string) string {
	t.Helper()
	out, e := stream.Canon(text)
	if e != api.OK {
		t.Fatalf("Canon(%.80q) = %d", text, e)
	}
	return out
}

// kinds are all kinds of commands.
var kinds = []int{api.Verify, api.Compose, api.Squash, api.Split, api.Join, api.Canon}

// ordinary is a command of each kind that is done, on the files of texts.
func ordinary() []api.Command {
	return []api.Command{
		command(api.Verify, "", "ab"),
		command(api.Compose, "x", "zero", "ab", "cd"),
		command(api.Squash, "x", "zero", "ab", "cd"),
		command(api.Split, "x", "ab"),
		command(api.Join, "x", "p1", "p0"),
		command(api.Canon, "x", "raw"),
	}
}
