package script

import (
	"quietus/digits"
)

// most is the greatest number that a line tells, but for the clock's start.
const most = 1<<31 - 1

// split answers the lines of a text.
func split(t string) []string {
	var lines []string
	start := 0
	for i, r := range t {
		if r == '\n' {
			lines = append(lines, t[start:i])
			start = i + 1
		}
	}
	if start < len(t) {
		lines = append(lines, t[start:])
	}
	return lines
}

// words answers the words of a line; false: there isn't just one blank between them.
func words(line string) ([]string, bool) {
	var all []string
	start := 0
	for i, r := range line {
		if r == ' ' {
			all = append(all, line[start:i])
			start = i + 1
		}
	}
	all = append(all, line[start:])
	for _, w := range all {
		if w == "" {
			return nil, false
		}
	}
	return all, true
}

// number reads a word that is at most top.
func number(word string, top int) (int, bool) {
	n, ok := digits.Read(word, uint64(top))
	return int(n), ok
}
