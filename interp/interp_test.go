package interp_test

import (
	"slices"
	"strings"
	"testing"

	"quietus/api"
	"quietus/arena"
	"quietus/interp"
	"quietus/text"
	"quietus/view"
)

// prog reads a program whose lines stand with slashes between.
func prog(t *testing.T, s string) api.Prog {
	t.Helper()
	p, line, col, err := text.Parse(strings.ReplaceAll(s, " / ", "\n"))
	if err != api.OK {
		t.Fatal(s, line, col, err)
	}
	return p
}

// run runs a program on the whole of words.
func run(t *testing.T, words []uint64, s string, fuel int) (*interp.Interp, *view.View, int) {
	t.Helper()
	v := view.Whole(words, api.MaxWrites)
	x := interp.New(prog(t, s), v, fuel)
	return x, v, x.Run()
}

// ends runs a program on a fresh heap, and holds how it ends against end, err, slate.
func ends(t *testing.T, s string, end int, err api.Errno, slate string) (*interp.Interp, *view.View) {
	t.Helper()
	x, v, got := run(t, arena.Fresh(100), s, api.MaxFuel)
	if got != end || x.Err() != err || x.Slate().Text() != slate {
		t.Errorf("%q: %d, %d, %q", s, got, x.Err(), x.Slate().Text())
	}
	if end == api.Done && v.Depth() != 1 {
		t.Errorf("%q: depth %d", s, v.Depth())
	}
	return x, v
}

func done(t *testing.T, s, slate string) (*interp.Interp, *view.View) {
	t.Helper()
	return ends(t, s, api.Done, api.OK, slate)
}

func errs(t *testing.T, s string, err api.Errno) {
	t.Helper()
	ends(t, s, api.Erred, err, "")
}

// P21.1: New, and the run of the chapter.
func TestNeeds(t *testing.T) {
	v := view.New(40, 9)
	p := prog(t, "set r0 6 / load r1 r0 0 / emit r1")
	x := interp.New(p, v, 1000)
	p.L[2].A = 5
	if x.Place() != 0 || x.Left() != api.MaxFuel || !slices.Equal(x.Regs(), make([]uint64, api.MaxRegs)) || x.Slate().Len() != 0 || x.Err() != api.OK {
		t.Error("a new one")
	}
	for range 2 {
		if x.Run() != api.Needs || v.Need() != 6 || x.Place() != 1 || x.Left() != api.MaxFuel-1 || x.Err() != api.OK {
			t.Error("needs", x.Place(), x.Left())
		}
	}
	v.Know(6, 5)
	for range 2 {
		if x.Run() != api.Done || x.Slate().Text() != "5" || x.Place() != 3 || x.Left() != api.MaxFuel-3 || x.Regs()[1] != 5 {
			t.Error("done", x.Slate().Text())
		}
	}
	x.Regs()[1] = 9
	x.Slate().Cut(0)
	if x.Regs()[1] != 5 || x.Slate().Len() != 1 {
		t.Error("shared")
	}
}

// P21.1: fuel.
func TestFuel(t *testing.T) {
	for _, c := range []struct{ fuel, end, left, place int }{{3, api.Done, 0, 3}, {4, api.Done, 1, 3}, {2, api.Erred, 0, 2}, {0, api.Erred, 0, 0}, {-7, api.Erred, 0, 0}} {
		x, _, end := run(t, arena.Fresh(40), "set r0 1 / set r1 2 / emit r1", c.fuel)
		if end != c.end || x.Left() != c.left || x.Place() != c.place || (end == api.Erred) != (x.Err() == api.ErrFuel) {
			t.Error(c, end, x.Left(), x.Place(), x.Err())
		}
	}
	x, _ := ends(t, "a: jump a", api.Erred, api.ErrFuel, "")
	if x.Left() != 0 || x.Place() != 0 {
		t.Error(x.Left(), x.Place())
	}
	x, _ = ends(t, "set r0 1 / retry", api.Blocked, api.OK, "")
	if x.Left() != api.MaxFuel-2 || x.Place() != 1 || x.Run() != api.Blocked || x.Left() != api.MaxFuel-2 {
		t.Error("a retry that blocks takes one", x.Left(), x.Place())
	}
	x, _ = ends(t, "set r0 1 / fail", api.Erred, api.ErrUser, "")
	if x.Left() != api.MaxFuel-1 || x.Place() != 1 || x.Run() != api.Erred || x.Err() != api.ErrUser {
		t.Error("one that errs takes none", x.Left(), x.Place())
	}
	x, _, end := run(t, arena.Fresh(40), "retry", 0)
	if end != api.Erred || x.Err() != api.ErrFuel {
		t.Error("fuel is asked ahead of each", end)
	}
}

// P21.1: programs that check refuses.
func TestRefused(t *testing.T) {
	for _, c := range []struct {
		l    []api.Ins
		want api.Errno
	}{
		{nil, api.ErrFull}, {make([]api.Ins, 41), api.ErrFull}, {make([]api.Ins, 1), api.ErrCode},
		{[]api.Ins{{Op: api.IOpen}}, api.ErrForm}, {[]api.Ins{{Op: api.IJump, C: 2}}, api.ErrAddr},
		{slices.Repeat([]api.Ins{{Op: api.IOpen}}, 6), api.ErrDeep},
	} {
		x := interp.New(api.Prog{L: c.l}, view.New(40, 9), 0)
		if x.Err() != api.OK {
			t.Error("ahead of Run")
		}
		for range 2 {
			if x.Run() != api.Erred || x.Err() != c.want || x.Place() != 0 || x.Left() != 0 {
				t.Error(c.l, x.Err())
			}
		}
	}
}

// P21.2: registers.
func TestReckon(t *testing.T) {
	done(t, "set r7 18446744073709551615 / set r1 2 / move r2 r7 / emit r2 / add r3 r7 r1 / emit r3 / sub r3 r1 r7 / emit r3 / mul r3 r7 r1 / emit r3", "18446744073709551615 1 3 18446744073709551614")
	done(t, "set r0 3 / set r1 4 / less r2 r0 r1 / emit r2 / less r2 r1 r0 / emit r2 / less r2 r0 r0 / emit r2 / equal r2 r0 r0 / emit r2 / equal r2 r0 r1 / emit r2", "1 0 0 1 0")
	done(t, "set r1 1 / zero r1 b / emit r1 / zero r0 b / emit r1 / b: emit r0 / jump c / emit r0 / c:", "1 0")
	done(t, "set r0 2 / set r1 1 / a: zero r0 b / sub r0 r0 r1 / emit r0 / jump a / b:", "1 0")
}

// P21.2: places of load and store.
func TestPlaces(t *testing.T) {
	_, v := done(t, "set r0 6 / set r1 77 / store r0 r1 3 / load r2 r0 3 / emit r2 / load r2 r0 4 / emit r2 / set r0 84 / store r0 r1 15", "77 0")
	if !slices.Equal(v.Cells(), []api.Cell{{At: 9, Word: 77}, {At: 99, Word: 77}}) {
		t.Error(v.Cells())
	}
	done(t, "load r1 r0 6 / load r1 r0 15 / store r0 r0 6", "")
	for _, s := range []string{"set r0 0 / load r1 r0 5", "set r0 5 / store r0 r0 0", "set r0 100 / load r1 r0 0", "set r0 85 / store r0 r0 15", "set r0 2147483648 / load r1 r0 0", "set r0 2147483640 / load r1 r0 15", "set r0 18446744073709551615 / load r1 r0 7", "set r0 18446744073709551610 / store r0 r0 15", "set r0 4294967302 / load r0 r0 0"} {
		errs(t, s, api.ErrAddr)
	}
	x, _, _ := run(t, arena.Fresh(100), "set r1 8 / load r1 r0 5", 9)
	if x.Regs()[1] != 8 || x.Place() != 1 {
		t.Error("nothing is done", x.Regs())
	}
	v = view.Whole(arena.Fresh(40), 0)
	x = interp.New(prog(t, "set r0 6 / store r0 r0 0"), v, 9)
	if x.Run() != api.Erred || x.Err() != api.ErrLog {
		t.Error(x.Err())
	}
}

// P21.2: alloc, free.
func TestBlocks(t *testing.T) {
	_, v := done(t, "set r0 3 / alloc r1 r0 / emit r1 / free r1 / alloc r0 r0 / emit r0", "15 20")
	if !slices.Equal(v.Frees(), []int{15}) {
		t.Error(v.Frees())
	}
	for _, n := range []string{"0", "17", "2147483648", "18446744073709551615", "4294967298", "9223372036854775809"} {
		errs(t, "set r0 "+n+" / alloc r1 r0", api.ErrSize)
	}
	for _, n := range []string{"0", "15", "2147483648", "18446744073709551615", "4294967311", "9223372036854775823"} {
		errs(t, "set r0 2 / alloc r1 r0 / free r1 / set r1 "+n+" / free r1", api.ErrAddr)
	}
	errs(t, "set r0 16 / a: alloc r1 r0 / jump a", api.ErrFull)
	v = view.New(40, 9)
	x := interp.New(prog(t, "set r0 3 / alloc r1 r0 / free r1"), v, 9)
	for _, at := range []int{api.Heads + 1, api.Bump} {
		if x.Run() != api.Needs || v.Need() != at || x.Place() != 1 || len(v.Cells()) != 0 {
			t.Error(at, v.Need())
		}
		v.Know(at, uint64(at/api.Bump*api.First))
	}
	if x.Run() != api.Done || x.Regs()[1] != 15 {
		t.Error(x.Err(), x.Regs())
	}
}

// P21.2: emit, fail.
func TestEmitFail(t *testing.T) {
	x, _ := ends(t, "a: emit r0 / add r0 r0 r1 / jump a", api.Erred, api.ErrLog, strings.TrimSpace(strings.Repeat("0 ", 16)))
	if x.Place() != 0 || x.Left() != api.MaxFuel-48 {
		t.Error(x.Place(), x.Left())
	}
	errs(t, "fail", api.ErrUser)
	errs(t, "open / fail / close", api.ErrUser)
}

// P21.3: open, close, undo.
func TestUndo(t *testing.T) {
	_, v := done(t, "set r0 6 / store r0 r0 0 / emit r0 / open / set r1 9 / store r0 r1 0 / store r0 r1 1 / emit r1 / undo / emit r1 / close / emit r1 / load r2 r0 0 / emit r2", "6 0 6")
	if !slices.Equal(v.Cells(), []api.Cell{{At: 6, Word: 6}}) {
		t.Error(v.Cells())
	}
	_, v = done(t, "set r0 6 / open / set r1 9 / store r0 r1 0 / emit r1 / close / emit r1", "9 9")
	if !slices.Equal(v.Cells(), []api.Cell{{At: 6, Word: 9}}) {
		t.Error(v.Cells())
	}
	// Within a part that is undone: blocks, and parts that were closed.
	_, v = done(t, "set r0 2 / open / alloc r1 r0 / open / free r1 / close / undo / close / alloc r1 r0 / emit r1", "15")
	if len(v.Frees()) != 0 || len(v.Cells()) != 2 {
		t.Error(v.Frees(), v.Cells())
	}
	// The inner undo leaves what is around it.
	done(t, "open / emit r0 / set r1 1 / open / set r1 2 / emit r1 / undo / close / emit r1 / close", "0 1")
	// A loop comes by a part more than once.
	done(t, "set r0 3 / set r1 1 / a: zero r0 b / open / emit r0 / sub r0 r0 r1 / close / jump a / b:", "3 2 1")
}

// P21.3: either, or, done, retry.
func TestEither(t *testing.T) {
	// The first way goes through.
	_, v := done(t, "set r0 6 / either / store r0 r0 0 / emit r0 / or / store r0 r0 1 / fail / done / emit r0", "6 6")
	if !slices.Equal(v.Cells(), []api.Cell{{At: 6, Word: 6}}) {
		t.Error(v.Cells())
	}
	// The first way retries: nothing of it stays.
	_, v = done(t, "set r0 6 / emit r1 / either / store r0 r0 0 / emit r0 / set r0 9 / retry / or / store r0 r0 1 / emit r0 / done / emit r0", "0 6 6")
	if !slices.Equal(v.Cells(), []api.Cell{{At: 7, Word: 6}}) {
		t.Error(v.Cells())
	}
	// Both retry.
	x, v := ends(t, "either / retry / or / set r1 4 / retry / done", api.Blocked, api.OK, "")
	if x.Place() != 4 || v.Depth() != 1 || x.Left() != api.MaxFuel-4 || x.Regs()[1] != 4 {
		t.Error(x.Place(), v.Depth(), x.Left())
	}
	// A retry in parts of the first way, and in the second way of an inner either.
	done(t, "set r1 1 / either / set r1 2 / open / set r1 3 / either / set r1 4 / retry / or / emit r1 / retry / done / close / or / emit r1 / done / emit r1", "1 1")
	// A retry in the second way goes to the either around it, in its first way.
	done(t, "either / either / retry / or / set r1 5 / retry / done / or / emit r1 / set r1 7 / done / emit r1", "0 7")
	// A retry in an open's part drops it, and waits where no first way is around it.
	x, v = ends(t, "set r0 6 / open / store r0 r0 0 / open / retry / close / close", api.Blocked, api.OK, "")
	if v.Depth() != 1 || x.Place() != 4 || len(v.Cells()) != 0 {
		t.Error(v.Depth(), x.Place(), v.Cells())
	}
	// The second way of an either in the second way.
	done(t, "either / retry / or / either / retry / or / emit r0 / done / done", "0")
	// One retry goes one way further only; the way that it left may be come to again by a loop.
	done(t, "set r0 2 / set r1 1 / a: zero r0 b / either / zero r2 c / c: retry / or / emit r0 / done / sub r0 r0 r1 / jump a / b:", "2 1")
	// Jumps to an or, and to a done.
	done(t, "either / jump a / fail / a: or / fail / done / either / retry / or / jump b / fail / b: done / emit r0", "0")
	// An error isn't a retry.
	errs(t, "either / fail / or / done", api.ErrUser)
}

// P21.3: levels ahead of New.
func TestDeep(t *testing.T) {
	p := prog(t, "open / open / open / open / open / close / close / close / close / close")
	v := view.New(40, 9)
	if x := interp.New(p, v, 99); x.Run() != api.Done || v.Depth() != 1 {
		t.Error(x.Err())
	}
	v.Open()
	if x := interp.New(p, v, 99); x.Run() != api.Erred || x.Err() != api.ErrDeep || x.Place() != 4 {
		t.Error(x.Err(), x.Place())
	}
	v = view.New(40, 9)
	v.Open()
	p = prog(t, "either / retry / or / emit r0 / done / open / undo / close / retry")
	if x := interp.New(p, v, 99); x.Run() != api.Blocked || v.Depth() != 2 {
		t.Error("levels ahead of New stay", v.Depth())
	}
}

// P21.4: each call, what it tells, and what its register is.
func TestCalls(t *testing.T) {
	done(t, "set r0 5 / call list.add 0 r0 / emit r0 / set r0 5 / call list.add 0 r0 / emit r0 / set r0 5 / call list.has 0 r0 / set r0 5 / call list.cut 0 r0 / set r0 5 / call list.has 0 r0 / emit r0", "yes 1 no 0 yes yes no 0")
	done(t, "set r0 5 / set r1 8 / call table.put 1 r0 / emit r0 / set r0 5 / call table.get 1 r0 / emit r0 / set r0 4 / call table.get 1 r0 / emit r0 / set r0 5 / call table.del 1 r0 / set r0 5 / call table.get 1 r0", "yes 1 8 8 none 0 yes none")
	done(t, "set r0 5 / call queue.push 2 r0 / emit r0 / set r1 9 / call queue.push 2 r1 / call queue.take 2 r3 / emit r3 / call queue.take 2 r0 / emit r0", "none 5 none 5 5 9 9")
	done(t, "set r5 5 / set r6 8 / call tree.set 7 r5 / set r5 7 / call tree.set 7 r5 / set r5 7 / call tree.set 7 r5 / set r5 5 / call tree.find 7 r5 / emit r5 / set r5 6 / call tree.find 7 r5 / set r5 6 / set r6 7 / call tree.count 7 r5 / emit r5 / set r5 5 / call tree.erase 7 r5 / set r5 0 / set r6 99 / call tree.count 7 r5 / set r6 0 / call tree.count 7 r5", "yes yes no 8 8 none 1 1 yes 1 0")
	// The root, and the register behind C, are the call's.
	x, v := done(t, "set r6 3 / set r7 4 / call table.put 5 r6", "yes")
	if w, _ := v.Read(api.Roots + 5); w == 0 || x.Regs()[7] != 4 || x.Regs()[6] != 1 {
		t.Error(w, x.Regs())
	}
}

// P21.4: who takes of an empty queue.
func TestTakeWaits(t *testing.T) {
	x, _ := ends(t, "set r1 1 / call queue.take 0 r1", api.Blocked, api.OK, "")
	if x.Place() != 1 || x.Left() != api.MaxFuel-2 || x.Regs()[1] != 1 {
		t.Error(x.Place(), x.Left(), x.Regs())
	}
	done(t, "either / set r1 1 / call queue.take 0 r1 / or / emit r1 / done", "0")
	// It waits though the slate is full.
	ends(t, "set r0 16 / set r1 1 / a: zero r0 b / emit r2 / sub r0 r0 r1 / jump a / b: call queue.take 0 r1", api.Blocked, api.OK, strings.TrimSpace(strings.Repeat("0 ", 16)))
}

// P21.4: no room in the slate, behind the call's own errors; calls that need and err.
func TestCallErrs(t *testing.T) {
	full := "set r0 16 / set r1 1 / a: zero r0 b / emit r2 / sub r0 r0 r1 / jump a / b: "
	zeros := strings.TrimSpace(strings.Repeat("0 ", 16))
	x, _ := ends(t, full+"call queue.push 0 r1", api.Erred, api.ErrLog, zeros)
	if x.Regs()[1] != 1 {
		t.Error(x.Regs())
	}
	ends(t, full+"call list.has 0 r1", api.Erred, api.ErrLog, zeros)
	words := arena.Fresh(32)
	words[api.Bump] = 31
	x, v, end := run(t, words, full+"call list.add 0 r1", api.MaxFuel)
	if end != api.Erred || x.Err() != api.ErrFull || len(v.Cells()) != 0 {
		t.Error(end, x.Err(), "its own error goes ahead")
	}
	v = view.New(40, 9)
	x = interp.New(prog(t, "call list.has 3 r0"), v, 9)
	if x.Run() != api.Needs || v.Need() != api.Roots+3 || x.Slate().Len() != 0 || x.Left() != 9 {
		t.Error(v.Need())
	}
	v.Know(api.Roots+3, 0)
	if x.Run() != api.Done || x.Slate().Text() != "no" {
		t.Error(x.Slate().Text())
	}
}
