package check_test

import (
	"slices"
	"strings"
	"testing"

	"quietus/api"
	"quietus/check"
	"quietus/code"
)

// prog reads names, each perhaps with a jump's place behind a slash.
func prog(s string) api.Prog {
	var p api.Prog
	for _, w := range strings.Fields(s) {
		name, place, jumps := strings.Cut(w, "/")
		op, ok := code.Op(name)
		if !ok {
			op = -1
		}
		ins := api.Ins{Op: op}
		if jumps {
			for _, d := range place {
				ins.C = ins.C*10 + int(d-'0')
			}
		}
		p.L = append(p.L, ins)
	}
	return p
}

func refused(t *testing.T, s string, at int, err api.Errno) {
	t.Helper()
	p := prog(s)
	gotAt, gotErr := check.Run(p)
	if gotAt != at || gotErr != err {
		t.Errorf("%q: %d, %d", s, gotAt, gotErr)
	}
	// P15.3.
	if err != api.OK && (len(check.Match(p)) != 0 || len(check.Region(p)) != 0) {
		t.Errorf("%q: places of a program that is refused", s)
	}
}

// P15.1: Region and Match.
func TestPlaces(t *testing.T) {
	for _, c := range []struct {
		s             string
		region, match []int
	}{
		{"either retry or done", []int{-1, 0, 0, 2}, []int{2, -1, 3, -1}},
		{"set", []int{-1}, []int{-1}},
		{"open undo open undo close undo close fail", []int{-1, 0, 0, 2, 2, 0, 0, -1}, []int{6, 6, 4, 4, -1, 6, -1, -1}},
		{"either open set close or either fail or done done jump/0", []int{-1, 0, 1, 1, 0, 4, 5, 5, 7, 4, -1}, []int{4, 3, -1, -1, 9, 7, -1, 8, -1, -1, -1}},
		{"either or open undo close done", []int{-1, 0, 1, 2, 2, 1}, []int{1, 5, 4, 4, -1, -1}},
	} {
		p := prog(c.s)
		if at, err := check.Run(p); at != 0 || err != api.OK {
			t.Error(c.s, at, err)
		}
		if got := check.Region(p); !slices.Equal(got, c.region) {
			t.Error(c.s, got)
		}
		if got := check.Match(p); !slices.Equal(got, c.match) {
			t.Error(c.s, got)
		}
	}
}

// P15.2: how many instructions.
func TestFull(t *testing.T) {
	refused(t, "", 0, api.ErrFull)
	refused(t, strings.Repeat("set ", 40), 0, api.OK)
	refused(t, strings.Repeat("set ", 41), 0, api.ErrFull)
	refused(t, strings.Repeat("nosuch ", 41), 0, api.ErrFull)
}

// P15.2: the first place, with the first of its faults.
func TestFaults(t *testing.T) {
	refused(t, "set nosuch close", 1, api.ErrCode)
	refused(t, "set close nosuch", 1, api.ErrForm)
	for _, s := range []string{"close", "or", "done", "undo"} {
		refused(t, s, 0, api.ErrForm)
	}
	refused(t, "open or", 1, api.ErrForm)
	refused(t, "open done", 1, api.ErrForm)
	refused(t, "either close", 1, api.ErrForm)
	refused(t, "either done", 1, api.ErrForm)
	refused(t, "either undo", 1, api.ErrForm)
	refused(t, "either or or", 2, api.ErrForm)
	refused(t, "either or close", 2, api.ErrForm)
	refused(t, "either or undo", 2, api.ErrForm)
	refused(t, "open either undo", 2, api.ErrForm)
	refused(t, "open close undo", 2, api.ErrForm)
	refused(t, "open close close", 2, api.ErrForm)
	refused(t, "either or done done", 3, api.ErrForm)
	// An open with a field that may not be is ErrCode, where it is too deep as well.
	p := prog("open open open open open open")
	p.L[5].A = 1
	if at, err := check.Run(p); at != 5 || err != api.ErrCode {
		t.Error(at, err)
	}
}

// P15.2: how deep.
func TestDeep(t *testing.T) {
	refused(t, "open open open open open close close close close close", 0, api.OK)
	refused(t, "open open open open open open", 5, api.ErrDeep)
	refused(t, "open open open open open either", 5, api.ErrDeep)
	refused(t, "either or either or either or either or either or either", 10, api.ErrDeep)
	refused(t, "either or either or either or either or either or done done done done done", 0, api.OK)
	refused(t, "open open open open open close open", 6, api.ErrForm)
}

// P15.2: what is open at the end.
func TestOpen(t *testing.T) {
	refused(t, "open", 0, api.ErrForm)
	refused(t, "set open either", 2, api.ErrForm)
	refused(t, "set open either or", 3, api.ErrForm)
	refused(t, "set open either or done", 1, api.ErrForm)
	refused(t, "jump/9 open open close", 1, api.ErrForm)
}

// P15.2: where jumps go.
func TestJumps(t *testing.T) {
	refused(t, "jump/0", 0, api.OK)
	refused(t, "jump/1", 0, api.OK)
	refused(t, "jump/2", 0, api.ErrAddr)
	refused(t, "zero/2", 0, api.ErrAddr)
	refused(t, "zero/1", 0, api.OK)
	refused(t, "jump/40", 0, api.ErrAddr)
	refused(t, "jump/1 open set jump/2 close", 0, api.OK)
	refused(t, "jump/2 open set close", 0, api.ErrAddr)
	refused(t, "jump/3 open set close", 0, api.ErrAddr)
	refused(t, "open jump/2 close", 0, api.OK)
	refused(t, "open jump/0 close", 1, api.ErrAddr)
	refused(t, "open jump/3 close", 1, api.ErrAddr)
	refused(t, "open jump/3 close set", 1, api.ErrAddr)
	refused(t, "either jump/2 or set done", 0, api.OK)
	refused(t, "either jump/3 or set done", 1, api.ErrAddr)
	refused(t, "either set or jump/2 done", 3, api.ErrAddr)
	refused(t, "either set or jump/4 done", 0, api.OK)
	refused(t, "either set or zero/5 done jump/9", 3, api.ErrAddr)
	refused(t, "set jump/9 open zero/0 close", 1, api.ErrAddr)
	refused(t, strings.Repeat("set ", 39)+"jump/40", 0, api.OK)
	// Another instruction's C is no place.
	p := prog("set call")
	p.L[1].A, p.L[1].C = api.CAdd, 6
	if at, err := check.Run(p); at != 0 || err != api.OK {
		t.Error(at, err)
	}
}

// R2: what is handed in isn't changed, and answers are new memory.
func TestShares(t *testing.T) {
	p := prog("open undo close")
	was := slices.Clone(p.L)
	check.Match(p)[0] = 99
	check.Region(p)[0] = 99
	if check.Match(p)[0] != 2 || check.Region(p)[0] != -1 || !slices.Equal(p.L, was) {
		t.Error("shared")
	}
}
