package extend_test

import (
	"testing"

	"quietus/api"
	"quietus/extend"
)

const me = 1

type step struct {
	want api.Op
	a    api.Answer
}

func clock(w uint64) step { return step{api.Op{Kind: api.LoadClock}, api.Answer{Word: w}} }

func lock(at int, l api.Lock) step {
	return step{api.Op{Kind: api.LoadLock, At: at}, api.Answer{Lock: l}}
}

func free(v uint64) api.Lock { return api.Lock{Version: v} }

func held(by int) api.Lock { return api.Lock{Version: 5, Held: true, Owner: by} }

func goes(t *testing.T, spins int, seen []api.Seen, end int, err api.Errno, by int, stamp uint64, steps ...step) {
	t.Helper()
	x := extend.New(me, spins, seen)
	for i := range seen {
		seen[i].Version += 100
	}
	for i, s := range steps {
		o, ok := x.Next()
		if !ok || o != s.want || x.End() != api.Going || x.By() != -1 || x.Err() != api.OK || x.Stamp() != 0 {
			t.Error("step", i, o, ok, x.End(), x.By(), x.Stamp())
		}
		x.Tell(s.a)
	}
	for range 2 {
		o, ok := x.Next()
		if ok != (end == api.Going) || !ok && o != (api.Op{}) || x.End() != end || x.Err() != err || x.By() != by || x.Stamp() != stamp {
			t.Error("end", o, ok, x.End(), x.Err(), x.By(), x.Stamp())
		}
		if end == api.Going {
			return
		}
		x.Tell(api.Answer{Word: 77, Err: api.ErrUser})
	}
}

func seen() []api.Seen { return []api.Seen{{Stripe: 3, Version: 5}, {Stripe: 0, Version: 6}} }

// P24.1: all that was read still stands.
func TestDone(t *testing.T) {
	goes(t, 0, nil, api.Done, api.OK, -1, 9, clock(9))
	goes(t, 0, nil, api.Done, api.OK, -1, 0, clock(0))
	goes(t, 0, seen(), api.Done, api.OK, -1, 9, clock(9), lock(3, free(5)), lock(0, free(6)))
	goes(t, 0, seen(), api.Going, api.OK, -1, 0, clock(9), lock(3, free(5)))
}

// P24.1: another version.
func TestConflict(t *testing.T) {
	for _, v := range []uint64{0, 4, 6} {
		goes(t, 4, seen(), api.Conflict, api.OK, -1, 0, clock(9), lock(3, free(v)))
	}
	goes(t, 4, seen(), api.Conflict, api.OK, -1, 0, clock(9), lock(3, free(5)), lock(0, free(5)))
}

// P24.1, P23.1: the rule of locks.
func TestRule(t *testing.T) {
	goes(t, 0, seen(), api.Done, api.OK, -1, 9, clock(9), lock(3, held(2)), lock(3, held(3)), lock(3, free(5)), lock(0, held(77)), lock(0, free(6)))
	goes(t, 0, seen(), api.Conflict, api.OK, 0, 0, clock(9), lock(3, held(0)))
	goes(t, -5, seen(), api.Conflict, api.OK, me, 0, clock(9), lock(3, held(me)))
	goes(t, 1, seen(), api.Conflict, api.OK, 0, 0, clock(9), lock(3, held(0)), lock(3, free(5)), lock(0, held(2)), lock(0, held(0)))
	four := []step{clock(9), lock(3, held(0)), lock(3, held(0)), lock(3, held(0)), lock(3, held(0))}
	goes(t, 99, seen(), api.Going, api.OK, -1, 0, four...)
	goes(t, 99, seen(), api.Conflict, api.OK, 0, 0, append(four, lock(3, held(0)))...)
}

// P23.1: an answer's error.
func TestErrs(t *testing.T) {
	goes(t, 0, nil, api.Erred, api.ErrArg, -1, 0, step{api.Op{Kind: api.LoadClock}, api.Answer{Err: api.ErrArg}})
	goes(t, 0, seen(), api.Erred, api.ErrAddr, -1, 0, clock(9), lock(3, free(5)), step{api.Op{Kind: api.LoadLock}, api.Answer{Err: api.ErrAddr, Lock: free(6)}})
}
