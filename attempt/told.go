package attempt

import (
	"slices"

	"quietus/api"
	"quietus/arena"
	"quietus/view"
)

// End answers Going, or how it ended.
func (x *Attempt) End() int { return x.course.End() }

// Err answers the error with which it ended.
func (x *Attempt) Err() api.Errno { return x.course.Err() }

// By answers the thread whose lock ended it.
func (x *Attempt) By() int { return x.course.By() }

// Begin answers what the clock was at first, when it is told.
func (x *Attempt) Begin() (uint64, bool) { return x.begin, x.begun }

// Stamp answers the stamp at which all that was read stood.
func (x *Attempt) Stamp() uint64 { return x.stamp }

// Seen answers the stripes that were read, and their versions.
func (x *Attempt) Seen() []api.Seen { return x.reads.All() }

// Reads answers the words that were read.
func (x *Attempt) Reads() []api.Cell { return x.view.Known() }

// Cells answers what it has written, or is writing.
func (x *Attempt) Cells() []api.Cell {
	if !x.counts() {
		return nil
	}
	return x.view.Cells()
}

// Frees answers the blocks that it has freed, or of a sweep given back.
func (x *Attempt) Frees() []int {
	if !x.counts() {
		return nil
	}
	if x.program == nil {
		return slices.Clone(x.blocks)
	}
	return x.view.Frees()
}

// Slate answers the text of its results.
func (x *Attempt) Slate() string {
	if !x.counts() || x.program == nil {
		return ""
	}
	return x.program.Slate().Text()
}

// Writing tells whether it is committed, but for writing back and going out.
func (x *Attempt) Writing() bool { return x.course.Going() && x.wrote() }

// Blocking tells whether its program waits, and it hasn't gone out yet.
func (x *Attempt) Blocking() bool { return x.course.Going() && x.task == blocking }

// counts tells whether what it did has come to be.
func (x *Attempt) counts() bool { return x.End() == api.Done || x.Writing() }

// sweep is the work of giving blocks back.
type sweep struct {
	view   *view.View
	blocks []int // of which the first ones are given
	given  int
	err    api.Errno
}

// Run goes on till a word is needed, or all are given.
func (s *sweep) Run() int {
	for s.given < len(s.blocks) {
		switch err := arena.Give(s.view, s.blocks[s.given]); err {
		case api.OK:
			s.given++
		case api.ErrNeed:
			return api.Needs
		default:
			s.err = err
			return api.Erred
		}
	}
	return api.Done
}

// Err answers the error with which it Erred.
func (s *sweep) Err() api.Errno { return s.err }
