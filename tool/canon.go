package tool

import (
	"iter"
	"slices"

	"strand/api"
	"strand/wire"
)

// sorter sorts an unsorted text in a file by runs: files of records alone, each in rising order of the blocks.
type sorter struct {
	*desk
	out       string
	size, fan int
	laid      int // how many runs there have been
}

// canon sorts an unsorted text into a stream's.
func (d *desk) canon(c api.Command) {
	in := c.In[0]
	h := d.look(in)
	d.room(canonRoom(d.files.Size(in)))
	s := &sorter{desk: d, out: c.Out, size: h.Size, fan: c.Fan}
	runs := s.sorted(d.unsorted(in), c.Budget)
	for len(runs) > s.fan {
		runs = s.fewer(runs)
	}
	s.layStream(h, s.merged(runs))
	s.remove(runs)
}

// look reads an unsorted text whole, ahead of all else, and is its head. So an error of the text is told whatever room there is, and whatever Budget is.
func (d *desk) look(name string) wire.Head {
	for range d.unsorted(name) {
	}
	return d.reader(name).UnsortedHead()
}

// unsorted goes through the records of an unsorted text.
func (d *desk) unsorted(name string) iter.Seq[api.Record] {
	return func(yield func(api.Record) bool) {
		in := d.reader(name)
		in.Unsorted(in.UnsortedHead())(yield)
	}
}

// canonRoom is the room that sorting an unsorted text of so many bytes may take: for its records in runs, and for a stream's text, or a run, that is merged of all of these. It hangs neither on Budget nor on Fan, so that the answer does not.
func canonRoom(bytes int) int {
	records := bytes - wire.HeadBytes
	return records + wire.HeadBytes + records + wire.CheckBytes
}

// sorted lays runs of less than budget records down, and is their names. Later records are in later runs.
func (s *sorter) sorted(records iter.Seq[api.Record], budget int) []string {
	var runs []string
	for list := range lists(records, budget-1) {
		runs = append(runs, s.layRun(slices.Values(wire.LatestOf(list))))
	}
	return runs
}

// lists goes through the records in lists of n of them; the last may have fewer, but there is none without any.
func lists(records iter.Seq[api.Record], n int) iter.Seq[[]api.Record] {
	return func(yield func([]api.Record) bool) {
		var list []api.Record
		for r := range records {
			list = append(list, r)
			if len(list) == n {
				if !yield(list) {
					return
				}
				list = nil
			}
		}
		if len(list) > 0 {
			yield(list)
		}
	}
}

// fewer merges the runs, fan of them at a time. Those beside each other are merged and stay in their places, since of each block the last run counts.
func (s *sorter) fewer(runs []string) []string {
	var out []string
	for group := range slices.Chunk(runs, s.fan) {
		out = append(out, s.layRun(s.merged(group)))
		s.remove(group)
	}
	return out
}

// merged goes through the records of runs as through those of one.
func (s *sorter) merged(runs []string) iter.Seq[api.Record] {
	parts := make([]iter.Seq[api.Record], len(runs))
	for i, name := range runs {
		parts[i] = s.records(name)
	}
	return wire.Merged(parts)
}

// records goes through those of a run.
func (s *sorter) records(name string) iter.Seq[api.Record] {
	return func(yield func(api.Record) bool) { s.reader(name).Bare(s.size)(yield) }
}

// layRun makes a run of records, and is its name.
func (s *sorter) layRun(records iter.Seq[api.Record]) string {
	name := numbered(s.out, s.laid)
	s.laid++
	s.create(name)
	for r := range records {
		s.write(name, wire.RecordText(r))
	}
	return name
}

// layStream makes the stream's text. The records are gone through twice, since how many there are stands ahead of them.
func (s *sorter) layStream(h wire.Head, records iter.Seq[api.Record]) {
	h.Many = 0
	for range records {
		h.Many++
	}
	s.create(s.out)
	for piece := range wire.Text(wire.HeadText(wire.StreamMagic, h), records) {
		s.write(s.out, piece)
	}
}
