package text

import (
	"strconv"
	"strings"

	"quietus/api"
	"quietus/code"
)

// Print writes a program so that Parse reads it.
func Print(p api.Prog) string {
	if !printable(p) {
		return ""
	}
	var named [api.MaxCode + 1]bool
	for _, ins := range p.L {
		if code.Jumps(ins.Op) {
			named[ins.C] = true
		}
	}
	var b strings.Builder
	for at, ins := range p.L {
		if named[at] {
			b.WriteString(label(at) + ": ")
		}
		b.WriteString(printIns(ins) + "\n")
	}
	if named[len(p.L)] {
		b.WriteString(label(len(p.L)) + ":\n")
	}
	return b.String()
}

func printable(p api.Prog) bool {
	if len(p.L) > api.MaxCode {
		return false
	}
	for _, ins := range p.L {
		if !code.May(ins) || code.Jumps(ins.Op) && ins.C > len(p.L) {
			return false
		}
	}
	return true
}

func printIns(ins api.Ins) string {
	line := code.Name(ins.Op)
	values := [4]uint64{uint64(ins.A), uint64(ins.B), uint64(ins.C), ins.N}
	for i, sort := range code.Fields(ins.Op) {
		if sort != code.Nil {
			line += " " + printValue(sort, values[i])
		}
	}
	return line
}

func printValue(sort int, n uint64) string {
	switch sort {
	case code.Reg, code.Low:
		return "r" + strconv.FormatUint(n, 10)
	case code.Called:
		return code.Call(int(n))
	case code.Place:
		return label(int(n))
	}
	return strconv.FormatUint(n, 10)
}

func label(place int) string { return "l" + strconv.Itoa(place) }
