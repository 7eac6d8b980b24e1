// Package course is what the machines that go step by step share: whether they
// are going, how they ended, and the rule of locks.
package course

import (
	"quietus/api"
)

// Nobody is where no thread is told.
const Nobody = -1

// Course is a machine's way to its end.
type Course struct {
	me, spins int
	end, by   int
	err       api.Errno
}

// New begins one, of the thread me.
func New(me, spins int) *Course {
	return &Course{me: me, spins: min(max(spins, 0), api.MaxSpins), by: Nobody}
}

// Going tells whether it hasn't ended.
func (c *Course) Going() bool { return c.end == api.Going }

// Stop ends it.
func (c *Course) Stop(end int, err api.Errno, by int) { c.end, c.err, c.by = end, err, by }

// Refused ends it, if an answer told an error.
func (c *Course) Refused(err api.Errno) bool {
	if err != api.OK {
		c.Stop(api.Erred, err, Nobody)
	}
	return err != api.OK
}

// Again tells, by the rule of locks, whether to look again at a lock that owner holds.
func (c *Course) Again(owner int) bool {
	if owner > c.me {
		return true
	}
	if c.spins == 0 {
		return false
	}
	c.spins--
	return true
}

// End answers Going, or how it ended.
func (c *Course) End() int { return c.end }

// Err answers the error with which it ended.
func (c *Course) Err() api.Errno { return c.err }

// By answers the thread whose lock ended it.
func (c *Course) By() int { return c.by }
