package code_test

import (
	"strings"
	"testing"

	"quietus/api"
	"quietus/code"
)

// The table of the chapter, told anew: for each instruction its name, and the
// least and greatest A, B, C; whether N may be any.
var table = []struct {
	op, name string
	a, b, c  [2]int
	n        bool
}{
	{"1", "set", [2]int{0, 7}, [2]int{}, [2]int{}, true},
	{"2", "move", [2]int{0, 7}, [2]int{0, 7}, [2]int{}, false},
	{"3", "add", [2]int{0, 7}, [2]int{0, 7}, [2]int{0, 7}, false},
	{"4", "sub", [2]int{0, 7}, [2]int{0, 7}, [2]int{0, 7}, false},
	{"5", "mul", [2]int{0, 7}, [2]int{0, 7}, [2]int{0, 7}, false},
	{"6", "less", [2]int{0, 7}, [2]int{0, 7}, [2]int{0, 7}, false},
	{"7", "equal", [2]int{0, 7}, [2]int{0, 7}, [2]int{0, 7}, false},
	{"8", "load", [2]int{0, 7}, [2]int{0, 7}, [2]int{0, 15}, false},
	{"9", "store", [2]int{0, 7}, [2]int{0, 7}, [2]int{0, 15}, false},
	{"10", "alloc", [2]int{0, 7}, [2]int{0, 7}, [2]int{}, false},
	{"11", "free", [2]int{0, 7}, [2]int{}, [2]int{}, false},
	{"12", "jump", [2]int{}, [2]int{}, [2]int{0, 40}, false},
	{"13", "zero", [2]int{0, 7}, [2]int{}, [2]int{0, 40}, false},
	{"14", "open", [2]int{}, [2]int{}, [2]int{}, false},
	{"15", "close", [2]int{}, [2]int{}, [2]int{}, false},
	{"16", "undo", [2]int{}, [2]int{}, [2]int{}, false},
	{"17", "either", [2]int{}, [2]int{}, [2]int{}, false},
	{"18", "or", [2]int{}, [2]int{}, [2]int{}, false},
	{"19", "done", [2]int{}, [2]int{}, [2]int{}, false},
	{"20", "retry", [2]int{}, [2]int{}, [2]int{}, false},
	{"21", "emit", [2]int{0, 7}, [2]int{}, [2]int{}, false},
	{"22", "fail", [2]int{}, [2]int{}, [2]int{}, false},
	{"23", "call", [2]int{1, 12}, [2]int{0, 7}, [2]int{0, 6}, false},
}

var odd = []int{-1 << 63, -1, 0, 1, 5, 6, 7, 8, 12, 13, 15, 16, 40, 41, 1 << 40}

func in(r [2]int, x int) bool { return x >= r[0] && x <= r[1] }

// P14.1: which instructions there are, and what their fields may be.
func TestMay(t *testing.T) {
	for i, row := range table {
		base := api.Ins{Op: i + 1, A: row.a[0], B: row.b[0], C: row.c[0]}
		if !code.May(base) {
			t.Error(row.name)
		}
		for _, x := range odd {
			a, b, c := base, base, base
			a.A, b.B, c.C = x, x, x
			if code.May(a) != in(row.a, x) || code.May(b) != in(row.b, x) || code.May(c) != in(row.c, x) {
				t.Error(row.name, x)
			}
		}
		for _, n := range []uint64{1, 1<<64 - 1} {
			withN := base
			withN.N = n
			if code.May(withN) != row.n {
				t.Error(row.name, n)
			}
		}
	}
	for _, op := range []int{-1, 0, len(table) + 1, 1 << 40, -1 << 63} {
		if code.May(api.Ins{Op: op}) || code.May(api.Ins{Op: op, A: 1}) {
			t.Error(op)
		}
	}
	if code.May(api.Ins{Op: api.ISet, C: 1}) {
		t.Error("the chapter's run")
	}
}

// P14.1: names of instructions, and jumps.
func TestNames(t *testing.T) {
	for i, row := range table {
		if code.Name(i+1) != row.name {
			t.Error(i, code.Name(i+1))
		}
		if op, ok := code.Op(row.name); !ok || op != i+1 {
			t.Error(row.name, op, ok)
		}
		if code.Jumps(i+1) != (row.name == "jump" || row.name == "zero") {
			t.Error(row.name)
		}
	}
	for _, op := range []int{-1, 0, 24, 1 << 40} {
		if code.Name(op) != "" || code.Jumps(op) {
			t.Error(op)
		}
	}
	for _, name := range []string{"", "Set", "set ", "sett", "list.add", "\xff"} {
		if op, ok := code.Op(name); ok || op != 0 {
			t.Error(name, op)
		}
	}
}

// P14.1: names of calls.
func TestCalls(t *testing.T) {
	all := strings.Fields("list.add list.cut list.has table.put table.get table.del queue.push queue.take tree.set tree.find tree.erase tree.count")
	for i, name := range all {
		if code.Call(i+1) != name {
			t.Error(i, code.Call(i+1))
		}
		if which, ok := code.Which(name); !ok || which != i+1 {
			t.Error(name, which, ok)
		}
	}
	for _, which := range []int{-1, 0, 13, 1 << 40, -1 << 63} {
		if code.Call(which) != "" {
			t.Error(which)
		}
	}
	for _, name := range []string{"", "set", "list", "list.", "list.Add", "queue.add"} {
		if which, ok := code.Which(name); ok || which != 0 {
			t.Error(name, which)
		}
	}
}
