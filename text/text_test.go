package text_test

import (
	"slices"
	"strings"
	"testing"

	"quietus/api"
	"quietus/code"
	"quietus/text"
)

func same(a, b api.Prog) bool { return slices.Equal(a.L, b.L) }

func reads(t *testing.T, s string, want ...api.Ins) {
	t.Helper()
	p, line, col, err := text.Parse(s)
	if err != api.OK || line != 0 || col != 0 || !same(p, api.Prog{L: want}) {
		t.Errorf("%q: %v, %d, %d, %d", s, p.L, line, col, err)
	}
}

func refuses(t *testing.T, s string, line, col int, err api.Errno) {
	t.Helper()
	p, gotLine, gotCol, gotErr := text.Parse(s)
	if gotErr != err || gotLine != line || gotCol != col || len(p.L) != 0 {
		t.Errorf("%q: %v, %d, %d, %d", s, p.L, gotLine, gotCol, gotErr)
	}
}

func wrong(t *testing.T, s string, line, col int) {
	t.Helper()
	refuses(t, s, line, col, api.ErrForm)
}

var fail, retry = api.Ins{Op: api.IFail}, api.Ins{Op: api.IRetry}

// P16.1: lines, words, remarks.
func TestLines(t *testing.T) {
	reads(t, "")
	reads(t, "\n")
	reads(t, "\n\n \t\n;\n; \xff set\n")
	reads(t, "fail", fail)
	reads(t, "fail\n", fail)
	reads(t, "\n\t fail\t \n\nretry;fail", fail, retry)
	reads(t, "fail;\xff\x00\u20ac\nretry ; ;", fail, retry)
	reads(t, "set r0 5;6", api.Ins{Op: api.ISet, N: 5})
	wrong(t, "fail\r\n", 1, 1)
	wrong(t, "fail retry", 1, 6)
	wrong(t, "fail\u00a0", 1, 1)
	wrong(t, "\vfail", 1, 1)
	wrong(t, "\n\n \t x", 3, 4)
}

// P16.1: each instruction, its fields in their order.
func TestInstructions(t *testing.T) {
	reads(t, "set r7 18446744073709551615", api.Ins{Op: api.ISet, A: 7, N: 1<<64 - 1})
	reads(t, "move r1 r2", api.Ins{Op: api.IMove, A: 1, B: 2})
	for i, name := range []string{"add", "sub", "mul", "less", "equal"} {
		reads(t, name+" r1 r2 r3", api.Ins{Op: api.IAdd + i, A: 1, B: 2, C: 3})
	}
	reads(t, "load r1 r2 15\nstore r3 r4 0", api.Ins{Op: api.ILoad, A: 1, B: 2, C: 15}, api.Ins{Op: api.IStore, A: 3, B: 4})
	reads(t, "alloc r1 r2\nfree r3\nemit r4", api.Ins{Op: api.IAlloc, A: 1, B: 2}, api.Ins{Op: api.IFree, A: 3}, api.Ins{Op: api.IEmit, A: 4})
	for i, name := range []string{"open", "close", "undo", "either", "or", "done", "retry"} {
		reads(t, name, api.Ins{Op: api.IOpen + i})
	}
	for which := 1; which <= 12; which++ {
		reads(t, "call "+code.Call(which)+" 7 r6", api.Ins{Op: api.ICall, A: which, B: 7, C: 6})
	}
	reads(t, "a: jump a\nzero r5 a", api.Ins{Op: api.IJump}, api.Ins{Op: api.IZero, A: 5})
}

// P16.1: fields that aren't as told.
func TestFields(t *testing.T) {
	for _, s := range []string{"r8", "r", "R0", "r00", "r01", "r10", "r-1", "0", "r0r", "r0,", "\xff", "r\u0660"} {
		wrong(t, "set "+s+" 5", 1, 5)
		wrong(t, "emit "+s, 1, 6)
	}
	for _, s := range []string{"18446744073709551616", "00", "05", "-1", "+1", "0x1", "r1", "1_0", "5\xff", "\u0665", "1e3"} {
		wrong(t, "set r0 "+s, 1, 8)
	}
	for _, s := range []string{"16", "00", "r1", "x"} {
		wrong(t, "load r0 r1 "+s, 1, 12)
	}
	wrong(t, "call list.add 8 r0", 1, 15)
	wrong(t, "call list.add r0 r0", 1, 15)
	wrong(t, "call list.add 0 r7", 1, 17)
	wrong(t, "call list.nix 0 r0", 1, 6)
	wrong(t, "call 1 0 r0", 1, 6)
	wrong(t, "jump 0", 1, 6)
	wrong(t, "jump a:", 1, 6)
	wrong(t, "zero a a\na:", 1, 6)
	wrong(t, "nix", 1, 1)
	wrong(t, "Set r0 1", 1, 1)
	wrong(t, "a: b", 1, 4)
}

// P16.2: at the end of the line, if a field lacks.
func TestLacks(t *testing.T) {
	wrong(t, "set", 1, 4)
	wrong(t, "set ", 1, 5)
	wrong(t, "set r0", 1, 7)
	wrong(t, "set r0 \t ", 1, 10)
	wrong(t, "set r0; 5", 1, 7)
	wrong(t, "set r0  ; 5", 1, 9)
	wrong(t, "fail\nload r0 r1\nfail", 2, 11)
	wrong(t, "\u00e9: jump", 1, 8)
	wrong(t, "\u00e9: jump;", 1, 8)
	wrong(t, "call list.add 0", 1, 16)
}

// P16.2: a word too many, and columns by runes.
func TestMany(t *testing.T) {
	wrong(t, "set r0 5 6", 1, 10)
	wrong(t, "fail \xff\xff", 1, 6)
	wrong(t, "\xff\xff fail", 1, 1)
	wrong(t, "\u0101b: fail \u20ac", 1, 10)
	wrong(t, "\u0101b: x", 1, 5)
	wrong(t, "fail ; \xff\nfail;\xff\nretry x", 3, 7)
	wrong(t, "a: \t\xff", 1, 5)
}

// P16.1: names.
func TestNames(t *testing.T) {
	for _, name := range []string{"a", "z", "A", "Z", "abcdefgh", "a1234567", "\u00c0", "\u00d6\u00d8\u00f6\u00f8", "\u024f", strings.Repeat("\u0101", 8), "fail", "l9", "r0"} {
		reads(t, name+": jump "+name, api.Ins{Op: api.IJump})
	}
	for _, name := range []string{"", "abcdefghi", "1a", "a-b", "a:b", "\u00d7", "\u00f7", "a\u00d7", "a\u00f7", "\u00bf", "\u0250", "a_", "\u0660", "a\u0660", "\xff", "a\xff", strings.Repeat("\u0101", 9), "\ufffd", "@", "[", "`", "{", "a/", "a."} {
		wrong(t, name+":", 1, 1)
		if name != "" {
			wrong(t, "fail\njump "+name, 2, 6)
		}
	}
}

// P16.2: which places labels name.
func TestLabels(t *testing.T) {
	reads(t, "a: zero r1 b\njump a\nb:", api.Ins{Op: api.IZero, A: 1, C: 2}, api.Ins{Op: api.IJump})
	reads(t, "jump d\na:\nb: ; x\n\nc: fail\nd: jump a\njump b\njump c", api.Ins{Op: api.IJump, C: 2}, fail, api.Ins{Op: api.IJump, C: 1}, api.Ins{Op: api.IJump, C: 1}, api.Ins{Op: api.IJump, C: 1})
	wrong(t, "a: fail\nb:\na: fail", 3, 1)
	wrong(t, "a: b: fail", 1, 4)
	wrong(t, "a: a: fail", 1, 4)
	wrong(t, "fail a:", 1, 6)
	wrong(t, "jump a\njump b\nc:", 1, 6)
	wrong(t, "jump c\n\tjump B\nc: b:", 3, 4)
	wrong(t, "jump c\n\tjump B\nc:\nb:", 2, 7)
}

// P16.2: how many bytes and instructions.
func TestFull(t *testing.T) {
	long := "nix" + strings.Repeat(" ", api.MaxText-3)
	wrong(t, long, 1, 1)
	reads(t, strings.Repeat(" ", api.MaxText))
	refuses(t, strings.Repeat(" ", api.MaxText+1), 1, 1, api.ErrFull)
	refuses(t, "\n\n"+long, 1, 1, api.ErrFull)
	forty := strings.Repeat("fail\n", api.MaxCode)
	if p, _, _, err := text.Parse(forty + "a:\n"); err != api.OK || len(p.L) != api.MaxCode {
		t.Error(err, len(p.L))
	}
	refuses(t, forty+"a: retry x", 41, 4, api.ErrFull)
	refuses(t, forty+" set r9", 41, 2, api.ErrFull)
	wrong(t, forty+" nix", 41, 2)
	wrong(t, forty+"1: fail", 41, 1)
	wrong(t, "jump nix\n"+strings.Repeat("fail\n", 39), 1, 6)
	refuses(t, "jump nix\n"+strings.Repeat("fail\n", 40), 41, 1, api.ErrFull)
}

// P16.3: Print.
func TestPrint(t *testing.T) {
	p := api.Prog{L: []api.Ins{
		{Op: api.IZero, A: 1, C: 4}, {Op: api.ISet, A: 2, N: 1<<64 - 1}, {Op: api.ILoad, A: 1, B: 2, C: 15}, {Op: api.IJump, C: 1},
	}}
	want := "zero r1 l4\nl1: set r2 18446744073709551615\nload r1 r2 15\njump l1\nl4:\n"
	if got := text.Print(p); got != want {
		t.Errorf("%q", got)
	}
	p = api.Prog{L: []api.Ins{{Op: api.ICall, A: api.CCount, B: 3, C: 6}, {Op: api.IAdd, A: 1, B: 2, C: 3}, fail}}
	if got := text.Print(p); got != "call tree.count 3 r6\nadd r1 r2 r3\nfail\n" {
		t.Errorf("%q", got)
	}
	for _, p := range []api.Prog{
		{}, {L: slices.Repeat([]api.Ins{fail}, 41)}, {L: []api.Ins{fail, {Op: api.IJump, C: 3}}}, {L: []api.Ins{{Op: api.IZero, C: 2}}},
		{L: []api.Ins{{Op: 99}}}, {L: []api.Ins{fail, {Op: api.ISet, C: 1}}}, {L: []api.Ins{{Op: api.IJump, C: -1}}}, {L: []api.Ins{{Op: api.IJump, C: 1 << 40}}},
	} {
		if got := text.Print(p); got != "" {
			t.Errorf("%q", got)
		}
	}
}

// P16.4: what Print writes, Parse reads.
func TestWayBack(t *testing.T) {
	seed := uint64(1)
	draw := func(n int) int {
		seed = seed*6364136223846793005 + 1442695040888963407
		return int(seed>>33) % n
	}
	printed := 0
	for range 3000 {
		var p api.Prog
		n := draw(api.MaxCode) + 1
		for range n {
			ins := api.Ins{Op: draw(23) + 1, A: draw(13), B: draw(9), C: draw(17)}
			if ins.Op == api.ISet {
				ins.N = seed
			}
			if code.Jumps(ins.Op) {
				ins.C = draw(n + 1)
			}
			if !code.May(ins) {
				ins = api.Ins{Op: api.IOpen + draw(7)}
			}
			p.L = append(p.L, ins)
		}
		s := text.Print(p)
		if s == "" {
			t.Error("not printed", p)
			continue
		}
		printed++
		if got, line, col, err := text.Parse(s); err != api.OK || line != 0 || col != 0 || !same(got, p) {
			t.Error(p, s, got, line, col, err)
		}
	}
	if printed == 0 {
		t.Error("none")
	}
}
