package text

import (
	"quietus/api"
)

// word is what stands together in a line, and the column where it begins.
type word struct {
	text string
	col  int
}

// line is the words ahead of a line's remark, and the column behind all that
// is no remark's.
type line struct {
	words []word
	end   int
}

// splitter goes through a text rune by rune.
type splitter struct {
	text   string
	lines  []line
	now    line
	col    int // of the rune it is at
	start  int // where in the text the word at work begins; none: there is none
	first  int // its column
	remark bool
}

const none = -1

// split answers the lines of a text.
func split(text string) []line {
	s := &splitter{text: text}
	s.fresh()
	for i, r := range text {
		s.step(i, r)
	}
	if s.col > 1 {
		s.endLine(len(text))
	}
	return s.lines
}

func (s *splitter) fresh() { s.now, s.col, s.start, s.remark = line{}, 1, none, false }

func (s *splitter) step(i int, r rune) {
	if r == '\n' {
		s.endLine(i)
		return
	}
	switch {
	case s.remark:
	case r == ';':
		s.endWords(i)
		s.remark = true
	case r == ' ' || r == '\t':
		s.endWord(i)
	case s.start == none:
		s.start, s.first = i, s.col
	}
	s.col++
}

func (s *splitter) endWord(i int) {
	if s.start != none {
		s.now.words = append(s.now.words, word{s.text[s.start:i], s.first})
		s.start = none
	}
}

func (s *splitter) endWords(i int) {
	s.endWord(i)
	s.now.end = s.col
}

func (s *splitter) endLine(i int) {
	if !s.remark {
		s.endWords(i)
	}
	s.lines = append(s.lines, s.now)
	s.fresh()
}

// isName tells whether s can be a label's name.
func isName(s string) bool {
	count := 0
	for _, r := range s {
		if !isLetter(r) && (count == 0 || r < '0' || r > '9') {
			return false
		}
		count++
	}
	return count >= 1 && count <= api.MaxName
}

// isLetter leaves out the signs of times and of division, which stand among the letters.
func isLetter(r rune) bool {
	if r >= 'a' && r <= 'z' || r >= 'A' && r <= 'Z' {
		return true
	}
	return r >= 0xC0 && r <= 0x24F && r != 0xD7 && r != 0xF7
}
