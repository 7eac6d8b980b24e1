package commit_test

import (
	"slices"
	"testing"

	"quietus/api"
	"quietus/commit"
	"quietus/mem"
)

const me = 1

type step struct {
	want api.Op
	a    api.Answer
}

func free(v uint64) api.Lock { return api.Lock{Version: v} }

func held(v uint64, by int) api.Lock { return api.Lock{Version: v, Held: true, Owner: by} }

func look(at int, l api.Lock) step {
	return step{api.Op{Kind: api.LoadLock, At: at}, api.Answer{Lock: l}}
}

func take(at int, v uint64, done bool) step {
	return step{api.Op{Kind: api.CasLock, At: at, Was: free(v), Lock: held(v, me)}, api.Answer{Done: done}}
}

func clock(now uint64) step {
	return step{api.Op{Kind: api.LoadClock}, api.Answer{Word: now}}
}

func stamp(now uint64, done bool) step {
	return step{api.Op{Kind: api.CasClock, Old: now, Word: now + 1}, api.Answer{Done: done}}
}

func word(at int, w uint64) step {
	return step{api.Op{Kind: api.StoreWord, At: at, Word: w}, api.Answer{}}
}

func drop(at int, v uint64) step {
	return step{api.Op{Kind: api.StoreLock, At: at, Lock: free(v)}, api.Answer{}}
}

func bad(s step, err api.Errno) step {
	s.a.Err = err
	return s
}

// end is how a commit should end; writes is behind how many steps it is Writing (-1: never).
type end struct {
	kind   int
	err    api.Errno
	by     int
	stamp  uint64
	writes int
}

func done(stamp uint64, writes int) end { return end{api.Done, api.OK, -1, stamp, writes} }

func conflict(by int) end { return end{api.Conflict, api.OK, by, 0, -1} }

// goes drives a commit of stamp 5 on four stripes of two words each.
func goes(t *testing.T, spins int, seen []api.Seen, cells []api.Cell, want end, steps ...step) {
	t.Helper()
	seen, cells = slices.Clone(seen), slices.Clone(cells)
	c := commit.New(me, spins, 5, seen, cells, 4, 2)
	for i := range seen {
		seen[i].Version += 50
	}
	for i := range cells {
		cells[i].Word += 50
	}
	for i, s := range steps {
		writes := want.writes >= 0 && i >= want.writes
		stamp := uint64(0)
		if writes {
			stamp = want.stamp
		}
		o, ok := c.Next()
		if !ok || o != s.want || c.End() != api.Going || c.By() != -1 || c.Err() != api.OK || c.Writing() != writes || c.Stamp() != stamp {
			t.Error("step", i, o, ok, c.End(), c.By(), c.Writing(), c.Stamp())
		}
		c.Tell(s.a)
	}
	for range 2 {
		o, ok := c.Next()
		if ok != (want.kind == api.Going) || !ok && o != (api.Op{}) || c.End() != want.kind || c.Err() != want.err || c.By() != want.by || c.Stamp() != want.stamp || c.Writing() {
			t.Error("end", o, ok, c.End(), c.Err(), c.By(), c.Stamp(), c.Writing())
		}
		if want.kind == api.Going {
			return
		}
		c.Tell(api.Answer{Word: 99, Err: api.ErrUser})
	}
}

var one = []api.Cell{{At: 9, Word: 7}} // stripe 0

// P25.2 to P25.4, the run of the chapter.
func TestOne(t *testing.T) {
	goes(t, 0, nil, one, done(9, 4), look(0, free(3)), take(0, 3, true), clock(8), stamp(8, true), word(9, 7), drop(0, 9))
}

// P25.2: stripes rising; P25.4: cells in their order.
func TestMany(t *testing.T) {
	cells := []api.Cell{{At: 14, Word: 1}, {At: 3, Word: 2}, {At: 11, Word: 3}, {At: 15, Word: 4}} // 3, 1, 1, 3
	goes(t, 0, nil, cells, done(6, 6), look(1, free(3)), take(1, 3, true), look(3, free(9)), take(3, 9, true), clock(5), stamp(5, true),
		word(14, 1), word(3, 2), word(11, 3), word(15, 4), drop(1, 6), drop(3, 6))
	// A cell at no stripe.
	goes(t, 0, nil, []api.Cell{{At: -1, Word: 2}}, end{api.Erred, api.ErrAddr, -1, 6, 2}, clock(5), stamp(5, true), bad(word(-1, 2), api.ErrAddr))
	goes(t, 0, nil, []api.Cell{{At: -1, Word: 2}}, done(6, 2), clock(5), stamp(5, true), word(-1, 2))
}

// P25.2: locks that are held, or change.
func TestTaking(t *testing.T) {
	goes(t, 0, nil, one, done(9, 8), look(0, held(3, 2)), look(0, held(3, 3)), look(0, free(3)), take(0, 3, false), look(0, free(4)), take(0, 4, true), clock(8), stamp(8, true), word(9, 7), drop(0, 9))
	goes(t, 0, nil, one, conflict(0), look(0, held(3, 0)))
	goes(t, 0, nil, one, conflict(me), look(0, held(3, me)))
	goes(t, 1, nil, one, conflict(0), look(0, held(3, 0)), look(0, free(3)), take(0, 3, false), look(0, held(3, 0)))
	goes(t, 77, nil, one, conflict(0), look(0, held(3, 0)), look(0, held(3, 0)), look(0, held(3, 0)), look(0, held(3, 0)), look(0, held(3, 0)))
	two := []api.Cell{{At: 9}, {At: 3}} // 0 and 1
	goes(t, 0, nil, two, conflict(0), look(0, free(3)), take(0, 3, true), look(1, held(4, 0)), drop(0, 3))
}

// P25.3: the clock.
func TestClock(t *testing.T) {
	goes(t, 0, nil, one, done(11, 6), look(0, free(3)), take(0, 3, true), clock(8), stamp(8, false), clock(10), stamp(10, true), word(9, 7), drop(0, 11))
	for _, now := range []uint64{api.MaxClock - 1, api.MaxClock, 1<<64 - 1} {
		goes(t, 0, nil, one, end{api.Erred, api.ErrClock, -1, 0, -1}, look(0, free(3)), take(0, 3, true), clock(now), drop(0, 3))
		goes(t, 0, nil, nil, end{api.Erred, api.ErrClock, -1, 0, -1}, clock(now))
	}
	goes(t, 0, nil, one, done(api.MaxClock-1, 4), look(0, free(3)), take(0, 3, true), clock(api.MaxClock-2), stamp(api.MaxClock-2, true), word(9, 7), drop(0, api.MaxClock-1))
	// Without cells it ends behind the last check.
	goes(t, 0, nil, nil, done(6, -1), clock(5), stamp(5, true))
	goes(t, 0, []api.Seen{{Stripe: 2, Version: 4}}, nil, done(7, -1), clock(6), stamp(6, true), look(2, free(4)))
}

// P25.3: what was seen.
func TestSeen(t *testing.T) {
	seen := []api.Seen{{Stripe: 2, Version: 4}, {Stripe: 0, Version: 3}, {Stripe: 1, Version: 1}}
	start := []step{look(0, free(3)), take(0, 3, true), clock(8), stamp(8, true)}
	with := func(more ...step) []step { return append(slices.Clone(start), more...) }
	goes(t, 0, seen, one, done(9, 6), with(look(2, free(4)), look(1, free(1)), word(9, 7), drop(0, 9))...)
	goes(t, 0, seen, one, conflict(-1), with(look(2, free(5)), drop(0, 3))...)
	goes(t, 0, seen, one, conflict(-1), with(look(2, free(3)), drop(0, 3))...)
	goes(t, 0, seen, one, conflict(-1), with(look(2, free(4)), look(1, free(2)), drop(0, 3))...)
	goes(t, 0, seen, one, conflict(0), with(look(2, held(4, 0)), drop(0, 3))...)
	goes(t, 0, seen, one, done(9, 9), with(look(2, held(4, 3)), look(2, held(4, 2)), look(2, free(4)), look(1, held(1, 2)), look(1, free(1)), word(9, 7), drop(0, 9))...)
	// A stripe that was taken here counts as it was then.
	goes(t, 0, seen, one, conflict(-1), look(0, free(4)), take(0, 4, true), clock(8), stamp(8, true), look(2, free(4)), drop(0, 4))
	goes(t, 0, seen[1:], one, conflict(-1), look(0, free(4)), take(0, 4, true), clock(8), stamp(8, true), drop(0, 4))
	// Nobody came between: nothing is looked at.
	goes(t, 0, seen, one, done(6, 4), look(0, free(3)), take(0, 3, true), clock(5), stamp(5, true), word(9, 7), drop(0, 6))
	goes(t, 0, seen, one, done(7, 8), look(0, free(3)), take(0, 3, true), clock(5), stamp(5, false), clock(6), stamp(6, true), look(2, free(4)), look(1, free(1)), word(9, 7), drop(0, 7))
	// The clock below the stamp isn't the stamp.
	goes(t, 0, seen, one, done(5, 6), look(0, free(3)), take(0, 3, true), clock(4), stamp(4, true), look(2, free(4)), look(1, free(1)), word(9, 7), drop(0, 5))
}

// P25.1: letting go of several.
func TestLetGo(t *testing.T) {
	cells := []api.Cell{{At: 14}, {At: 3}, {At: 9}} // 3, 1, 0
	start := []step{look(0, free(3)), take(0, 3, true), look(1, free(4)), take(1, 4, true), look(3, free(5)), take(3, 5, true)}
	goes(t, 0, nil, cells, end{api.Erred, api.ErrClock, -1, 0, -1}, append(slices.Clone(start), clock(api.MaxClock-1), drop(0, 3), drop(1, 4), drop(3, 5))...)
	goes(t, 0, []api.Seen{{Stripe: 2, Version: 1}}, cells, conflict(0), append(slices.Clone(start), clock(7), stamp(7, true), look(2, held(1, 0)), drop(0, 3), drop(1, 4), drop(3, 5))...)
	goes(t, 2, nil, cells, conflict(0), append(slices.Clone(start[:4]), look(3, held(5, 0)), look(3, held(5, 0)), look(3, held(5, 0)), drop(0, 3), drop(1, 4))...)
}

// P25.1: an answer's error ends it at once.
func TestErrs(t *testing.T) {
	all := []step{look(0, free(3)), take(0, 3, true), clock(8), stamp(8, true), look(2, free(4)), word(9, 7), drop(0, 9)}
	for i := range all {
		steps := slices.Clone(all[:i+1])
		steps[i] = bad(steps[i], api.ErrAddr)
		want := end{api.Erred, api.ErrAddr, -1, 0, -1}
		if i > 4 {
			want.stamp, want.writes = 9, 5
		}
		goes(t, 0, []api.Seen{{Stripe: 2, Version: 4}}, one, want, steps...)
	}
	goes(t, 0, nil, one, end{api.Erred, api.ErrUser, -1, 0, -1}, look(0, free(3)), take(0, 3, true), clock(api.MaxClock), bad(drop(0, 3), api.ErrUser))
}

// A whole commit on a memory.
func TestOnMemory(t *testing.T) {
	m := mem.New(api.Shape{Words: 40, Stripes: 4, Wide: 2, Threads: 2, Start: 3})
	c := commit.New(me, 2, 3, nil, []api.Cell{{At: 9, Word: 7}, {At: 30, Word: 8}}, 4, 2)
	for o, ok := c.Next(); ok; o, ok = c.Next() {
		c.Tell(m.Do(o))
	}
	if c.End() != api.Done || c.Stamp() != 4 || m.Now() != 4 || m.Words()[9] != 7 || m.Words()[30] != 8 {
		t.Error(c.End(), c.Stamp(), m.Words())
	}
	if !slices.Equal(m.Locks(), []api.Lock{free(4), {}, {}, free(4)}) {
		t.Error(m.Locks())
	}
	// A thread that may hold no lock.
	c = commit.New(99, 2, 4, nil, one, 4, 2)
	for o, ok := c.Next(); ok; o, ok = c.Next() {
		c.Tell(m.Do(o))
	}
	if c.End() != api.Erred || c.Err() != api.ErrArg {
		t.Error(c.End(), c.Err())
	}
}
