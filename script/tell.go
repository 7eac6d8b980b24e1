package script

import (
	"strconv"

	"quietus/api"
	"quietus/history"
	"quietus/judge"
)

// Numbers that lines behind the machine tell.
const (
	mostDraw   = 255
	mostRounds = 9999
)

// tell does a line behind the machine.
func (s *script) tell(words []string) bool {
	switch len(words) {
	case 1:
		return s.tellAll(words[0])
	case 2:
		return s.tellOf(words[0], words[1])
	case 3:
		return words[0] == "pick" && s.pick(words[1], words[2])
	}
	return false
}

// tellAll does a line of one word.
func (s *script) tellAll(word string) bool {
	switch word {
	case "clock":
		s.say(strconv.FormatUint(s.m.Now(), 10))
	case "order":
		s.order()
	case "check":
		s.check()
	default:
		return false
	}
	return true
}

// tellOf does a line of a word and a number.
func (s *script) tellOf(word, of string) bool {
	switch word {
	case "rounds":
		n, ok := number(of, mostRounds)
		s.rounds(n)
		return ok
	case "state":
		i, ok := s.thread(of)
		if ok {
			s.say(stateName(s.m.State(i)))
		}
		return ok
	case "results":
		i, ok := s.thread(of)
		if ok {
			s.results(i)
		}
		return ok
	case "word":
		at, ok := number(of, s.m.Setup().Shape.Words-1)
		if !ok || at == 0 {
			return false
		}
		s.say(strconv.FormatUint(s.m.Words()[at], 10))
		return true
	}
	return false
}

func (s *script) pick(of, drawn string) bool {
	i, ok := s.thread(of)
	if !ok {
		return false
	}
	draw, ok := number(drawn, mostDraw)
	if !ok {
		return false
	}
	s.m.Pick(i, uint8(draw))
	return true
}

func (s *script) rounds(n int) {
	for range n {
		for i := range s.m.Threads() {
			s.m.Pick(i, 0)
		}
	}
}

func (s *script) results(i int) {
	for _, r := range s.m.Results(i) {
		if r.Kind != api.Done {
			s.say("erred " + strconv.Itoa(int(r.Err)))
			continue
		}
		line := "done " + strconv.FormatUint(r.Stamp, 10)
		if r.Slate != "" {
			line += " " + r.Slate
		}
		s.say(line)
	}
}

func (s *script) order() {
	l := s.m.Attempts()
	for _, i := range history.Order(l) {
		x := l[i]
		line := strconv.Itoa(x.Thread) + " " + strconv.Itoa(x.Job) + " " + strconv.Itoa(x.Try)
		line += " " + kindName(x.Kind) + " " + strconv.FormatUint(x.Stamp, 10)
		if x.Sweep {
			line += " sweep"
		}
		s.say(line)
	}
}

func (s *script) check() {
	l := s.m.Attempts()
	if history.Keeps(l) && history.True(s.start, l) && judge.Serial(s.start, s.m.Setup(), s.jobs, l) {
		s.say("yes")
	} else {
		s.say("no")
	}
}

// thread reads the number of a thread that is there.
func (s *script) thread(word string) (int, bool) { return number(word, s.m.Threads()-1) }

func (s *script) say(line string) { s.out.WriteString(line + "\n") }

func stateName(state int) string {
	switch state {
	case api.Running:
		return "running"
	case api.Yielding:
		return "yielding"
	case api.Pausing:
		return "pausing"
	case api.Waiting:
		return "waiting"
	case api.Looking:
		return "looking"
	}
	return "finished"
}

func kindName(kind int) string {
	switch kind {
	case api.Done:
		return "done"
	case api.Blocked:
		return "blocked"
	case api.Erred:
		return "erred"
	case api.Conflict:
		return "conflict"
	}
	return "going"
}
