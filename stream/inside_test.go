package stream

import (
	"errors"
	"slices"
	"testing"

	"strand/api"
)

// counted is an iterator over these records, which counts how many it was asked for.
func counted(list []api.Record, asked *int) func(yield func(api.Record) bool) {
	return func(yield func(api.Record) bool) {
		for _, r := range list {
			*asked++
			if !yield(r) {
				return
			}
		}
	}
}

// The records of chunks come one behind the other, and no further than they are asked for.
func TestInTurn(t *testing.T) {
	list := []chunk{{}, {records: []api.Record{{Block: 1}, {Block: 2}}}, {}, {records: []api.Record{{Block: 0}}}, {records: []api.Record{{Block: 7}}}, {}}
	if got := slices.Collect(inTurn(list)); !slices.Equal(got, []api.Record{{Block: 1}, {Block: 2}, {Block: 0}, {Block: 7}}) {
		t.Errorf("inTurn = %v", got)
	}
	for n := range 5 {
		if got := slices.Collect(first(n, inTurn(list))); len(got) != n {
			t.Errorf("the first %d: %v", n, got)
		}
	}
	if got := slices.Collect(inTurn(nil)); got != nil {
		t.Errorf("inTurn of nothing = %v", got)
	}
}

// What is made of an iterator ends with yield, too.
func TestFirstAndBehind(t *testing.T) {
	list := []api.Record{{Block: 0}, {Block: 1}, {Block: 2}, {Block: 3}}
	for n := range 6 {
		if got := slices.Collect(first(n, slices.Values(list))); !slices.Equal(got, list[:min(n, 4)]) {
			t.Errorf("first %d = %v", n, got)
		}
		if got := slices.Collect(behind(n, slices.Values(list))); !slices.Equal(got, list[min(n, 4):]) {
			t.Errorf("behind %d = %v", n, got)
		}
	}
	asked := 0
	for range first(0, counted(list, &asked)) {
		t.Error("there is a record")
	}
	for range first(2, counted(list, &asked)) {
	}
	if asked != 2 {
		t.Errorf("first 2 asked for %d", asked)
	}
	asked = 0
	for range first(3, behind(1, counted(list, &asked))) {
		break
	}
	if asked != 2 {
		t.Errorf("ended at the second, it asked for %d", asked)
	}
}

// What is Free is left out; the iterator waits till it is gone through, and ends with yield.
func TestHeld(t *testing.T) {
	list := []api.Record{{Free: true}, {Block: 1, Data: "a"}, {Free: true, Block: 2}, {Free: true, Block: 3}, {Block: 4, Data: "b"}, {Free: true, Block: 5}}
	if got := slices.Collect(held(slices.Values(list))); !slices.Equal(got, []api.Record{list[1], list[4]}) {
		t.Errorf("held = %v", got)
	}
	asked := 0
	records := held(counted(list, &asked))
	if asked != 0 {
		t.Errorf("ahead of all it asked for %d", asked)
	}
	for range records {
		break
	}
	if asked != 2 {
		t.Errorf("ended at the first that is held, it asked for %d", asked)
	}
}

// An error's number that is given up becomes the answer, beside zeros; no other panic is kept quiet.
func TestAtFace(t *testing.T) {
	if answer, e := atFace(func() string { return "x" }); answer != "x" || e != api.OK {
		t.Errorf("atFace = %q, %d", answer, e)
	}
	if answer, e := atFace(func() string { panic(api.ErrSum) }); answer != "" || e != api.ErrSum {
		t.Errorf("atFace = %q, %d", answer, e)
	}
	fault := errors.New("a fault")
	for _, other := range []any{fault, "a fault", 7} {
		func() {
			defer func() {
				if got := recover(); got != other {
					t.Errorf("the panic %v has become %v", other, got)
				}
			}()
			atFace(func() string { panic(other) })
		}()
	}
}
