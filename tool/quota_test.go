package tool_test

import (
	"maps"
	"strings"
	"testing"

	"strand/api"
	"strand/tool"
)

// bytesOf is how many bytes the files of In have, each of them once.
func bytesOf(list map[string]string, c api.Command) int {
	once := map[string]int{}
	for _, name := range c.In {
		once[name] = len(list[name])
	}
	n := 0
	for bytes := range maps.Values(once) {
		n += bytes
	}
	return n
}

// roomy runs a command on fresh files with so much room: it is done, or there is too little room; which of the two.
func roomy(t *testing.T, list map[string]string, c api.Command, room int) bool {
	t.Helper()
	made, want := inMemory(list, c)
	f := with(list, room)
	e := tool.Run(f, c)
	if e != api.ErrQuota {
		outcome(t, f, c, e, want, list, made)
		return true
	}
	if want != api.OK || room >= api.Spare+12*bytesOf(list, c) {
		t.Fatalf("Run(%+v) with room for %d = %d, want %d", c, room, e, want)
	}
	if !maps.Equal(look(f), list) || f.Left() != room {
		t.Fatalf("Run(%+v) with room for %d: the files %q, room for %d", c, room, f.List(), f.Left())
	}
	return false
}

// P12: from no room, and less than that, to more than Spare and twelve times the bytes: done, or ErrQuota and nothing is changed.
func TestLittleRoom(t *testing.T) {
	list := failingTexts(t)
	for _, c := range failing() {
		done := false
		for room := -50; room < api.Spare+12*bytesOf(list, c)+50; room++ {
			now := roomy(t, list, c, room)
			if done && !now {
				t.Fatalf("Run(%+v) with room for %d is refused, with less it was done", c, room)
			}
			done = now
			if room > 500 {
				room += 12
			}
		}
		if !done {
			t.Errorf("Run(%+v) is refused with all the room", c)
		}
	}
}

// P11: what is made at once needs its own bytes and no more; Verify, and what is refused, needs none.
func TestRoomNeeded(t *testing.T) {
	list := failingTexts(t)
	for _, c := range failing() {
		if made, want := inMemory(list, c); c.Kind == api.Verify || want != api.OK {
			for _, room := range []int{-1000, 0} {
				refuses(t, with(list, room), c, want)
			}
		} else if c.Kind != api.Canon {
			need := 0
			for text := range maps.Values(made) {
				need += len(text)
			}
			asked(t, with(list, need), c, api.OK, made)
			refuses(t, with(list, need-1), c, api.ErrQuota)
			refuses(t, with(list, 0), c, api.ErrQuota)
		} else {
			refuses(t, with(list, len(made["out"])-1), c, api.ErrQuota)
		}
	}
}

// P12: the room that is promised to be enough is, for what grows most.
func TestEnoughRoom(t *testing.T) {
	d := dice(8)
	list := map[string]string{
		"frees":  head("STRU", 1, 2, 100, 1, 400) + strings.Repeat(frees(0), 400),
		"writes": head("STRU", 1, 2, 100, 1, 400) + strings.Repeat(writes(99, "x"), 400),
		"large":  drawn(&d, 400, 100, 64),
		"mixed":  drawn(&d, 399, 100, 2),
		"one":    drawn(&d, 1, 1, 1),
		"none":   drawn(&d, 0, 1, 1),
	}
	for name := range list {
		for _, budget := range []int{2, 3, 49, 50} {
			for _, fan := range []int{2, 3, 8} {
				c := api.Command{Kind: api.Canon, In: []string{name}, Out: "out", Budget: budget, Fan: fan}
				bytes := len(list[name])
				if !roomy(t, list, c, api.Spare+12*bytes) || !roomy(t, list, c, 2*(bytes-18)+22) {
					t.Errorf("Run(%+v) is refused", c)
				}
			}
		}
	}
	for n := range 101 {
		streams := map[string]string{"long": long(n), "wide": summed(head("STRD", 1, 2, 1, 64, 1) + writes(0, strings.Repeat("x", 64)))}
		for name, limit := range map[string]int{"long": 31, "wide": 95} {
			if c := (api.Command{Kind: api.Split, In: []string{name}, Out: "out", Limit: limit}); !roomy(t, streams, c, api.Spare+12*len(streams[name])) {
				t.Errorf("Run(%+v) is refused", c)
			}
		}
	}
}
