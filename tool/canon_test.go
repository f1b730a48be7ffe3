package tool_test

import (
	"slices"
	"strings"
	"testing"

	"strand/api"
	"strand/tool"
)

// askCanon holds Canon with files against Canon in memory, for these numbers.
func askCanon(t *testing.T, text string, budget, fan int) api.Errno {
	t.Helper()
	return agrees(t, map[string]string{"in": text, "other": "kept"}, api.Command{Kind: api.Canon, In: []string{"in"}, Out: "out", Budget: budget, Fan: fan})
}

// P13: every Budget and every Fan that may be.
func TestCanonEveryBudgetAndFan(t *testing.T) {
	d := dice(1)
	few := []string{drawn(&d, 100, 100, 2), drawn(&d, 60, 7, 1), drawn(&d, 50, 1, 64), drawn(&d, 0, 5, 5), drawn(&d, 1, 5, 5)}
	for budget := 2; budget <= api.MaxBudget; budget++ {
		for fan := 2; fan <= api.MaxFan; fan++ {
			for _, text := range few {
				if e := askCanon(t, text, budget, fan); e != api.OK {
					t.Fatalf("Budget %d, Fan %d: %d", budget, fan, e)
				}
			}
		}
	}
}

// P13: as many records as may be, of few blocks and of many.
func TestCanonMaxRaw(t *testing.T) {
	d := dice(2)
	for _, blocks := range []int{1, 2, 10, api.MaxBlocks} {
		for _, size := range []int{1, api.MaxSize} {
			for _, many := range []int{api.MaxRaw - 1, api.MaxRaw} {
				text := drawn(&d, many, blocks, size)
				for _, budget := range []int{2, 3, 7, 49, api.MaxBudget} {
					for _, fan := range []int{2, 3, api.MaxFan} {
						if e := askCanon(t, text, budget, fan); e != api.OK {
							t.Fatalf("%d blocks, Budget %d, Fan %d: %d", blocks, budget, fan, e)
						}
					}
				}
			}
			askCanon(t, drawn(&d, api.MaxRaw+1, blocks, size), 2, 2)
		}
	}
}

// P13: any number of records, beside the numbers at which there is one run more.
func TestCanonHowMany(t *testing.T) {
	d := dice(3)
	for many := range 70 {
		text := drawn(&d, many, 1+d.below(100), 1+d.below(4))
		for _, budget := range []int{2, 3, 4, 5, 9, 17, 33, 50} {
			for _, fan := range []int{2, 4, 8} {
				askCanon(t, text, budget, fan)
			}
		}
	}
}

// P13: of each block the last record counts, within a run, across the runs, and across what was merged.
func TestCanonLastCounts(t *testing.T) {
	for n := 1; n <= 40; n++ {
		var all, back strings.Builder
		for i := range n {
			all.WriteString(writes(0, two(i)) + writes(2, two(500-i)))
			back.WriteString(writes(n-i, two(i)))
		}
		last := writes(0, two(n-1)) + writes(2, two(501-n))
		for budget := 2; budget <= api.MaxBudget; budget += 3 {
			for fan := 2; fan <= api.MaxFan; fan++ {
				f := with(map[string]string{"all": head("STRU", 3, 4, 100, 2, 2*n+1) + all.String() + frees(1), "back": head("STRU", 3, 4, 100, 2, n+1) + back.String() + frees(n)}, plenty)
				c := api.Command{Kind: api.Canon, In: []string{"all"}, Out: "x", Budget: budget, Fan: fan}
				asked(t, f, c, api.OK, map[string]string{"x": summed(head("STRD", 3, 4, 100, 2, 3) + last[:5] + frees(1) + last[5:])})
				c.In, c.Out = []string{"back"}, "y"
				want := head("STRD", 3, 4, 100, 2, n)
				for i := 1; i < n; i++ {
					want += writes(i, two(n-i))
				}
				asked(t, f, c, api.OK, map[string]string{"y": summed(want + frees(n))})
			}
		}
	}
}

// bent is a text with some bytes turned, cut or longer.
func bent(d *dice, text string) string {
	b := []byte(text)
	for range d.below(3) {
		b[d.below(len(b))] = byte(d.below(5))
	}
	switch d.below(4) {
	case 0:
		b = b[:d.below(len(b)+1)]
	case 1:
		b = append(b, make([]byte, d.below(9))...)
	}
	return string(b)
}

// P13: its errors with files are those in memory, wherever they stand.
func TestCanonErrors(t *testing.T) {
	text := head("STRU", 1, 2, 4, 2, 6) + writes(3, "ab") + frees(0) + writes(1, "cd") + frees(3) + frees(2) + writes(0, "ef")
	for i := range len(text) {
		if e := askCanon(t, text[:i], 2+i%5, 2+i%3); e != api.ErrShort {
			t.Errorf("%d bytes: %d", i, e)
		}
		b := []byte(text)
		for c := range 256 {
			b[i] = byte(c)
			askCanon(t, string(b), 2+c%7, 2+c%7)
		}
	}
	askCanon(t, text+"\x00", 2, 2)
	askCanon(t, text+frees(1), 50, 2)
	d := dice(4)
	count := map[api.Errno]int{}
	for range 3000 {
		blocks, size := 1+d.below(5), 1+d.below(3)
		count[askCanon(t, bent(&d, drawn(&d, d.below(30), blocks, size)), 2+d.below(9), 2+d.below(7))]++
	}
	for _, e := range []api.Errno{api.OK, api.ErrShort, api.ErrMagic, api.ErrHead, api.ErrKind, api.ErrOrder, api.ErrRest} {
		if count[e] == 0 {
			t.Errorf("no text was answered with %d", e)
		}
	}
}

// P13: whatever room there is, the answer hangs neither on Budget nor on Fan; and a text with an error needs none.
func TestCanonRoom(t *testing.T) {
	d := dice(5)
	for _, text := range []string{drawn(&d, 0, 3, 3), drawn(&d, 1, 3, 3), drawn(&d, 40, 100, 3), drawn(&d, 40, 3, 1), strings.Repeat("?", 40), drawn(&d, 40, 9, 9) + "?"} {
		out, want := inMemory(map[string]string{"in": text}, command(api.Canon, "out", "in"))
		for left := -20; left < 3*len(text)+50; left += 7 {
			var answers []api.Errno
			for _, numbers := range [][2]int{{2, 2}, {2, 8}, {3, 2}, {7, 3}, {41, 2}, {42, 8}, {50, 8}} {
				f := with(map[string]string{"in": text}, left)
				e := tool.Run(f, api.Command{Kind: api.Canon, In: []string{"in"}, Out: "out", Budget: numbers[0], Fan: numbers[1]})
				if e == api.OK && f.Text("out") != out["out"] || e != want && (want != api.OK || e != api.ErrQuota) || left < len(out["out"]) && e == api.OK {
					t.Fatalf("%d bytes of room, %v: %d, want %d", left, numbers, e, want)
				}
				answers = append(answers, e)
			}
			if len(slices.Compact(answers)) != 1 {
				t.Fatalf("%d bytes of room: the answers %v", left, answers)
			}
		}
	}
}
