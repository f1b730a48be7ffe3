package tool

import (
	"strconv"

	"strand/api"
	"strand/files"
	"strand/stream"
)

// work does a command that may be. Unless all of it is done, nothing that it has made is left.
func work(f *files.FS, c api.Command) {
	d := &desk{files: f}
	defer d.clear()
	d.do(c)
	// What is still there by now is what the command is for.
	d.made = nil
}

// do does the work of a command of any kind.
func (d *desk) do(c api.Command) {
	switch c.Kind {
	case api.Verify:
		must(stream.Parse(d.texts(c.In)[0]))
	case api.Compose:
		d.lay(c.Out, must(stream.Compose(d.texts(c.In))))
	case api.Squash:
		d.lay(c.Out, must(stream.Squash(d.texts(c.In))))
	case api.Split:
		d.layAll(c.Out, must(stream.Split(d.texts(c.In)[0], c.Limit)))
	case api.Join:
		d.lay(c.Out, must(stream.Join(d.texts(c.In))))
	case api.Canon:
		d.canon(c)
	}
}

// must is what a call answers; with an error it gives up.
func must[T any](answer T, e api.Errno) T {
	if e != api.OK {
		panic(e)
	}
	return answer
}

// lay makes a file of this text.
func (d *desk) lay(name, text string) {
	d.room(len(text))
	d.put(name, text)
}

// layAll makes a file of each of these texts, under the name and its number.
func (d *desk) layAll(name string, texts []string) {
	bytes := 0
	for _, text := range texts {
		bytes += len(text)
	}
	d.room(bytes)
	for i, text := range texts {
		d.put(numbered(name, i), text)
	}
}

// put makes a file of this text, for which there is room.
func (d *desk) put(name, text string) {
	d.create(name)
	d.write(name, text)
}

// numbered is the name of the file with this number that goes with a name.
func numbered(name string, n int) string { return name + "." + strconv.Itoa(n) }
