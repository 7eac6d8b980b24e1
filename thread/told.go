package thread

import (
	"slices"

	"quietus/api"
)

// Results answers what came of the jobs that are over.
func (t *Thread) Results() []api.Result { return slices.Clone(t.results) }

// Limbo answers the blocks that rest, and behind them those that a sweep is to give.
func (t *Thread) Limbo() []api.Rest { return append(t.limbo.All(), t.giving...) }

// Writing tells whether its attempt is.
func (t *Thread) Writing() bool { return t.state == api.Running && t.now.Writing() }

// Attempts answers those that have ended, and behind them the one at work.
func (t *Thread) Attempts() []api.Attempt {
	all := make([]api.Attempt, 0, len(t.past)+1)
	for _, x := range t.past {
		x.Reads, x.Cells, x.Frees = slices.Clone(x.Reads), slices.Clone(x.Cells), slices.Clone(x.Frees)
		all = append(all, x)
	}
	if t.state != api.Running {
		return all
	}
	if _, begun := t.now.Begin(); !begun {
		return all
	}
	kind := api.Going
	if t.now.Writing() {
		kind = api.Done
	}
	return append(all, t.told(kind, 0))
}

// told answers what is told of the attempt at work, or of one that has just ended.
func (t *Thread) told(kind, ended int) api.Attempt {
	begin, _ := t.now.Begin()
	return api.Attempt{
		Thread: t.me,
		Job:    t.job,
		Try:    t.tries,
		Sweep:  t.sweeping,
		Kind:   kind,
		Err:    t.now.Err(),
		Begin:  begin,
		Stamp:  t.now.Stamp(),
		Born:   t.born,
		Ended:  ended,
		Reads:  t.now.Reads(),
		Cells:  t.now.Cells(),
		Frees:  t.now.Frees(),
		Slate:  t.now.Slate(),
	}
}
