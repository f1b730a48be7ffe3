package tool

import (
	"slices"

	"strand/api"
	"strand/files"
	"strand/wire"
)

// tries is how often taking a file away is tried, where there is nothing else left to do about it.
const tries = 3

// desk is the files on which a command works, and the names of those that it has made. Where a file fails it gives up by panic with the error's number.
type desk struct {
	files *files.FS
	made  []string
}

// read reads n bytes of a file, which are there, from a place on.
func (d *desk) read(name string, at, n int) string {
	text, ok := d.files.Read(name, at, n)
	if !ok {
		panic(api.ErrFile)
	}
	return text
}

// reader reads a file from its beginning on.
func (d *desk) reader(name string) *wire.Reader {
	return wire.Over(d.files.Size(name), func(at, n int) string { return d.read(name, at, n) })
}

// texts reads files whole.
func (d *desk) texts(names []string) []string {
	list := make([]string, len(names))
	for i, name := range names {
		list[i] = d.read(name, 0, d.files.Size(name))
	}
	return list
}

// room asks that there is room for so many bytes. It is asked ahead of the first file that is made, for all of them: a call that fails behind it has failed by itself.
func (d *desk) room(bytes int) {
	if bytes > d.files.Left() {
		panic(api.ErrQuota)
	}
}

// create makes an empty file.
func (d *desk) create(name string) {
	if !d.files.Create(name) {
		panic(api.ErrFile)
	}
	d.made = append(d.made, name)
}

// write writes behind the bytes of a file that was made.
func (d *desk) write(name, text string) {
	if !d.files.Append(name, text) {
		panic(api.ErrFile)
	}
}

// remove takes files away that were made.
func (d *desk) remove(names []string) {
	for _, name := range names {
		if !d.files.Remove(name) {
			panic(api.ErrFile)
		}
		d.made = slices.DeleteFunc(d.made, func(made string) bool { return made == name })
	}
}

// clear takes away all that was made. It gives nothing up, since it stands behind what gave up already; a file that stays would be in the way of the next command, so it is tried again.
func (d *desk) clear() {
	for range tries {
		d.made = slices.DeleteFunc(d.made, d.files.Remove)
	}
}
