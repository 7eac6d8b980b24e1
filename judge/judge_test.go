package judge_test

import (
	"slices"
	"strings"
	"testing"

	"quietus/api"
	"quietus/arena"
	"quietus/judge"
	"quietus/text"
)

var setup = api.Setup{Writes: 20, Fuel: 50}

func prog(t *testing.T, s string) api.Prog {
	t.Helper()
	p, line, col, err := text.Parse(strings.ReplaceAll(s, " / ", "\n"))
	if err != api.OK {
		t.Fatal(s, line, col, err)
	}
	return p
}

func cells(l ...uint64) []api.Cell {
	var all []api.Cell
	for i := 0; i+1 < len(l); i += 2 {
		all = append(all, api.Cell{At: int(l[i]), Word: l[i+1]})
	}
	return all
}

// P30.1: what Serial asks of attempts of each kind.
func TestSerial(t *testing.T) {
	jobs := [][]api.Prog{
		{prog(t, "set r0 6 / load r1 r0 0 / store r0 r0 1 / emit r1 / set r1 2 / alloc r2 r1 / free r2"), prog(t, "set r0 6 / load r1 r0 1 / emit r1 / zero r1 a / fail / a: retry")},
		{prog(t, "set r0 6 / set r1 9 / store r0 r1 0")},
	}
	words := arena.Fresh(40)
	first := api.Attempt{Kind: api.Done, Stamp: 3, Cells: cells(7, 6, api.Bump, 17, 14, 1), Frees: []int{15}, Slate: "0"}
	nine := api.Attempt{Thread: 1, Kind: api.Done, Stamp: 2, Cells: cells(6, 9)}
	blocked := api.Attempt{Job: 1, Kind: api.Blocked, Stamp: 2}
	erred := api.Attempt{Job: 1, Kind: api.Erred, Err: api.ErrUser, Stamp: 4}
	sweep := api.Attempt{Job: 1, Sweep: true, Kind: api.Done, Stamp: 5, Cells: cells(15, 0, 1, 15), Frees: []int{15}}
	with := func(x api.Attempt, change func(*api.Attempt)) api.Attempt {
		change(&x)
		return x
	}
	for i, c := range []struct {
		l    []api.Attempt
		want bool
	}{
		{nil, true},
		{[]api.Attempt{first}, true},
		{[]api.Attempt{first, nine}, false}, // it would have told 9
		{[]api.Attempt{first, with(nine, func(x *api.Attempt) { x.Stamp = 4 })}, true},
		{[]api.Attempt{with(first, func(x *api.Attempt) { x.Slate = "9" }), nine}, true},
		{[]api.Attempt{with(first, func(x *api.Attempt) { x.Slate = "1" })}, false},
		{[]api.Attempt{with(first, func(x *api.Attempt) { x.Slate = "00" })}, false},
		{[]api.Attempt{with(first, func(x *api.Attempt) { x.Frees = nil })}, false},
		{[]api.Attempt{with(first, func(x *api.Attempt) { x.Frees = []int{16} })}, false},
		{[]api.Attempt{with(first, func(x *api.Attempt) { x.Cells = cells(api.Bump, 17, 7, 6, 14, 1) })}, false},
		{[]api.Attempt{with(first, func(x *api.Attempt) { x.Cells = x.Cells[:2] })}, false},
		{[]api.Attempt{with(first, func(x *api.Attempt) { x.Job = 2 })}, false},
		{[]api.Attempt{with(first, func(x *api.Attempt) { x.Job = -1 })}, false},
		{[]api.Attempt{with(first, func(x *api.Attempt) { x.Thread = 2 })}, false},
		{[]api.Attempt{with(first, func(x *api.Attempt) { x.Thread = -1 })}, false},
		{[]api.Attempt{with(first, func(x *api.Attempt) { x.Kind, x.Thread = api.Conflict, 9 })}, true},
		{[]api.Attempt{with(first, func(x *api.Attempt) { x.Kind, x.Thread = api.Going, 9 })}, true},
		{[]api.Attempt{blocked}, true},
		{[]api.Attempt{with(blocked, func(x *api.Attempt) { x.Stamp = 9 }), first}, false},
		{[]api.Attempt{with(blocked, func(x *api.Attempt) { x.Job = 9 })}, false},
		{[]api.Attempt{with(blocked, func(x *api.Attempt) { x.Sweep = true })}, true},
		{[]api.Attempt{first, erred, blocked}, true},
		{[]api.Attempt{erred}, false},
		{[]api.Attempt{first, with(erred, func(x *api.Attempt) { x.Err = api.ErrFuel })}, false},
		{[]api.Attempt{with(erred, func(x *api.Attempt) { x.Err = api.ErrClock })}, true},
		{[]api.Attempt{with(erred, func(x *api.Attempt) { x.Err, x.Job = api.ErrClock, 9 })}, true},
		{[]api.Attempt{with(erred, func(x *api.Attempt) { x.Job = 9 })}, false},
		{[]api.Attempt{with(erred, func(x *api.Attempt) { x.Job, x.Err = 9, api.ErrFull })}, false},
		{[]api.Attempt{with(erred, func(x *api.Attempt) { x.Thread, x.Err = 9, api.ErrFull })}, false},
		{[]api.Attempt{with(erred, func(x *api.Attempt) { x.Sweep = true })}, true},
		{[]api.Attempt{first, sweep}, true},
		{[]api.Attempt{first, with(sweep, func(x *api.Attempt) { x.Thread, x.Slate = 77, "1" })}, true},
		{[]api.Attempt{sweep}, false},
		{[]api.Attempt{first, with(sweep, func(x *api.Attempt) { x.Cells = cells(15, 0) })}, false},
		{[]api.Attempt{first, with(sweep, func(x *api.Attempt) { x.Frees = nil })}, false},
		{[]api.Attempt{first, with(sweep, func(x *api.Attempt) { x.Frees = []int{15, 15} })}, false},
	} {
		if got := judge.Serial(words, setup, jobs, c.l); got != c.want {
			t.Error(i, got)
		}
	}
	// The fuel and the room are the setup's.
	for _, s := range []api.Setup{{Writes: 20, Fuel: 6}, {Writes: 2, Fuel: 50}} {
		if judge.Serial(words, s, jobs, []api.Attempt{first}) {
			t.Error(s)
		}
	}
	if judge.Serial(words, api.Setup{Writes: 3, Fuel: 50}, jobs, []api.Attempt{first, with(sweep, func(x *api.Attempt) { x.Cells = cells(15, 0, 1, 15) })}) != true {
		t.Error("room that is just enough")
	}
	if judge.Serial(words, setup, nil, []api.Attempt{first}) {
		t.Error("no jobs")
	}
}

// P30.1: After.
func TestAfter(t *testing.T) {
	words := arena.Fresh(40)
	words[0] = 5
	l := []api.Attempt{{Kind: api.Done, Stamp: 4, Cells: cells(6, 4)}, {Kind: api.Erred, Stamp: 9, Cells: cells(6, 9)}, {Kind: api.Done, Stamp: 3, Cells: cells(6, 3, 7, 3, 99, 1)}, {Kind: api.Done, Stamp: 5, Sweep: true, Cells: cells(8, 5)}}
	got := judge.After(words, l)
	want := arena.Fresh(40)
	want[6], want[7], want[8] = 4, 3, 5
	if !slices.Equal(got, want) || words[6] != 0 || words[0] != 5 {
		t.Error(got)
	}
	if got := judge.After(nil, nil); len(got) != api.MinWords {
		t.Error(got)
	}
}

// heap has blocks of class 1 at 15 (live), 18, 21, 24, and one of class 2 at 27.
func heap(more ...uint64) []uint64 {
	words := arena.Fresh(40)
	for _, c := range append(cells(api.Bump, 31, 14, 9, 17, 1, 20, 1, 23, 1, 26, 2), cells(more...)...) {
		words[c.At] = c.Word
	}
	return words
}

func rests(l ...int) []api.Rest {
	var all []api.Rest
	for _, at := range l {
		all = append(all, api.Rest{At: at, Stamp: 7})
	}
	return all
}

// P30.2: Parts, and the run of the chapter.
func TestParts(t *testing.T) {
	if !judge.Parts(arena.Fresh(40), nil) || !judge.Serial(arena.Fresh(40), setup, nil, nil) {
		t.Error("nothing was done")
	}
	listed := heap(1, 18, 18, 24)
	for i, c := range []struct {
		words []uint64
		rests [][]api.Rest
		want  bool
	}{
		{listed, [][]api.Rest{rests(21), nil, rests(27)}, true},
		{listed, [][]api.Rest{rests(27, 21)}, true},
		{heap(), [][]api.Rest{rests(27, 21, 18, 24)}, true},
		{listed, [][]api.Rest{rests(27)}, false},
		{listed, nil, false},
		{listed, [][]api.Rest{rests(27, 21), rests(21)}, false},
		{listed, [][]api.Rest{rests(27, 21, 15)}, false},
		{listed, [][]api.Rest{rests(27, 21, 18)}, false},
		{listed, [][]api.Rest{rests(27, 21, 22)}, false},
		{listed, [][]api.Rest{rests(27, 21, 0)}, false},
		{listed, [][]api.Rest{rests(27, 21, -1)}, false},
		{listed, [][]api.Rest{rests(27, 21, 40)}, false},
		{listed, [][]api.Rest{rests(27, 21, 1<<40)}, false},
		{heap(1, 18, 18, 18), [][]api.Rest{rests(21, 24, 27)}, false},
		{heap(api.Bump, 30), [][]api.Rest{rests(18, 21, 24, 27)}, false},
		{nil, nil, false},
	} {
		if got := judge.Parts(c.words, c.rests); got != c.want {
			t.Error(i, got)
		}
	}
}

// P30.2: Safe.
func TestSafe(t *testing.T) {
	words := heap(1, 18, 18, 24, 2, 27)
	for at := -2; at < 45; at++ {
		bad := at == 19 || at == 25 || at >= 28 && at <= 30
		for kind := 0; kind <= api.StoreEpoch+1; kind++ {
			want := !bad || kind != api.LoadWord && kind != api.StoreWord
			if got := judge.Safe(words, api.Op{Kind: kind, At: at}); got != want {
				t.Error(at, kind, got)
			}
		}
	}
	if !judge.Safe(heap(1, 18, 18, 18), api.Op{Kind: api.LoadWord, At: 19}) || !judge.Safe(nil, api.Op{Kind: api.StoreWord, At: 19}) {
		t.Error("where Lists tells an error")
	}
}
