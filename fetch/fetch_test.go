package fetch_test

import (
	"testing"

	"quietus/api"
	"quietus/fetch"
)

const me, at, stripe = 1, 9, 4

var (
	loadLock = api.Op{Kind: api.LoadLock, At: stripe}
	loadWord = api.Op{Kind: api.LoadWord, At: at}
)

func free(v uint64) api.Answer { return api.Answer{Lock: api.Lock{Version: v}} }

func held(v uint64, by int) api.Answer {
	return api.Answer{Lock: api.Lock{Version: v, Held: true, Owner: by}}
}

func word(w uint64) api.Answer { return api.Answer{Word: w} }

// step asks that want is next, and answers it.
type step struct {
	want api.Op
	a    api.Answer
}

func lock(a api.Answer) step { return step{loadLock, a} }

func load(w uint64) step { return step{loadWord, word(w)} }

// goes drives a fetch at stamp 5, and holds its end against what is asked.
func goes(t *testing.T, spins int, end int, err api.Errno, by int, w uint64, seen api.Seen, steps ...step) {
	t.Helper()
	f := fetch.New(me, at, stripe, spins, 5)
	for i, s := range steps {
		o, ok := f.Next()
		if !ok || o != s.want || f.End() != api.Going || f.By() != -1 || f.Err() != api.OK || f.Word() != 0 || f.Seen() != (api.Seen{}) {
			t.Error("step", i, o, ok, f.End(), f.By())
		}
		f.Tell(s.a)
	}
	for range 2 {
		o, ok := f.Next()
		if ok != (end == api.Going) || !ok && o != (api.Op{}) || f.End() != end || f.Err() != err || f.By() != by || f.Word() != w || f.Seen() != seen {
			t.Error("end", o, ok, f.End(), f.Err(), f.By(), f.Word(), f.Seen())
		}
		if end == api.Going {
			return
		}
		f.Tell(held(99, 0))
		f.Tell(api.Answer{Err: api.ErrUser})
	}
}

// P23.2: a word whose lock stays.
func TestDone(t *testing.T) {
	for _, v := range []uint64{3, 5, 0} {
		goes(t, 0, api.Done, api.OK, -1, 7, api.Seen{Stripe: stripe, Version: v}, lock(free(v)), load(7), lock(free(v)))
	}
}

// P23.2: versions above the stamp.
func TestLate(t *testing.T) {
	goes(t, 4, api.Late, api.OK, -1, 0, api.Seen{}, lock(free(6)))
	goes(t, 4, api.Late, api.OK, -1, 0, api.Seen{}, lock(free(3)), load(7), lock(free(6)))
	goes(t, 4, api.Going, api.OK, -1, 0, api.Seen{}, lock(free(5)))
}

// P23.2: another lock behind the word is taken as the first one.
func TestAnother(t *testing.T) {
	goes(t, 0, api.Done, api.OK, -1, 8, api.Seen{Stripe: stripe, Version: 4}, lock(free(3)), load(7), lock(free(4)), load(8), lock(free(4)))
	goes(t, 0, api.Done, api.OK, -1, 8, api.Seen{Stripe: stripe, Version: 3}, lock(free(3)), load(7), lock(held(3, 2)), lock(held(3, 2)), lock(free(3)), load(8), lock(free(3)))
	goes(t, 0, api.Conflict, api.OK, 0, 0, api.Seen{}, lock(free(3)), load(7), lock(held(3, 0)))
	// All parts of the lock count.
	odd := api.Answer{Lock: api.Lock{Version: 3, Owner: 1}}
	goes(t, 0, api.Going, api.OK, -1, 0, api.Seen{}, lock(free(3)), load(7), lock(odd), load(7), lock(free(3)))
}

// P23.1: the rule of locks.
func TestRule(t *testing.T) {
	// A greater number is waited for, and takes no spins.
	var steps []step
	for range 50 {
		steps = append(steps, lock(held(9, 2)))
	}
	goes(t, 0, api.Going, api.OK, -1, 0, api.Seen{}, steps...)
	goes(t, 1, api.Conflict, api.OK, 0, 0, api.Seen{}, append(steps, lock(held(9, 0)), lock(held(9, 3)), lock(held(9, 0)))...)
	// A lesser one, or oneself, as long as there are spins.
	for spins, looks := range map[int]int{-3: 1, 0: 1, 1: 2, 4: 5, 5: 5, 1 << 40: 5} {
		for _, by := range []int{0, me, -7} {
			steps = nil
			for range looks {
				steps = append(steps, lock(held(9, by)))
			}
			goes(t, spins, api.Conflict, api.OK, by, 0, api.Seen{}, steps...)
			goes(t, spins, api.Going, api.OK, -1, 0, api.Seen{}, append(steps[1:], lock(held(9, 99)))...)
		}
	}
	// Spins are of the whole fetch.
	goes(t, 1, api.Conflict, api.OK, 0, 0, api.Seen{}, lock(held(3, 0)), lock(free(3)), load(7), lock(held(3, 0)))
}

// P23.1: an answer's error.
func TestErrs(t *testing.T) {
	bad := api.Answer{Err: api.ErrAddr, Word: 5, Lock: api.Lock{Version: 3}}
	goes(t, 4, api.Erred, api.ErrAddr, -1, 0, api.Seen{}, lock(bad))
	goes(t, 4, api.Erred, api.ErrAddr, -1, 0, api.Seen{}, lock(free(3)), step{loadWord, bad})
	goes(t, 4, api.Erred, api.ErrAddr, -1, 0, api.Seen{}, lock(free(3)), load(7), lock(bad))
}
