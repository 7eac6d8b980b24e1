package machine_test

import (
	"slices"
	"strings"
	"testing"

	"quietus/api"
	"quietus/arena"
	"quietus/machine"
	"quietus/text"
)

var setup = api.Setup{Shape: api.Shape{Words: 40, Stripes: 8, Wide: 1, Threads: 9, Start: 5}, Spins: 1, Writes: 20, Fuel: 100}

func jobs(t *testing.T, l ...string) []api.Prog {
	t.Helper()
	var all []api.Prog
	for _, s := range l {
		p, line, col, err := text.Parse(strings.ReplaceAll(s, " / ", "\n"))
		if err != api.OK {
			t.Fatal(s, line, col, err)
		}
		all = append(all, p)
	}
	return all
}

// picks picks a thread n times.
func picks(m *machine.Machine, i, n int) {
	for range n {
		m.Pick(i, 0)
	}
}

// P28.1, P28.3: a new machine.
func TestNew(t *testing.T) {
	for n, want := range map[int]int{0: 1, 1: 1, 3: 3, 4: 4, 6: 4} {
		m := machine.New(setup, make([][]api.Prog, n))
		s := setup
		s.Shape.Threads = want
		if m.Threads() != want || m.Setup() != s || !slices.Equal(m.Words(), arena.Fresh(40)) || !slices.Equal(m.Slots(), make([]uint64, want)) || !slices.Equal(m.Locks(), make([]api.Lock, 8)) || m.Now() != 5 {
			t.Error(n, m.Threads(), m.Setup())
		}
		if m.Picks() != 0 || len(m.Attempts()) != 0 || m.Writing() || !m.Rests() {
			t.Error(n, "nothing was done")
		}
		if o, ok := m.Last(); ok || o != (api.Op{}) {
			t.Error(n, o)
		}
		for i := range want {
			if m.State(i) != api.Finished || len(m.Results(i)) != 0 || len(m.Limbo(i)) != 0 {
				t.Error(n, i, m.State(i))
			}
		}
		for _, i := range []int{-1, want, 99, 1 << 40} {
			if m.State(i) != 0 || len(m.Results(i)) != 0 || len(m.Limbo(i)) != 0 || m.Pick(i, 0) != api.ErrArg {
				t.Error(n, i)
			}
		}
		if m.Picks() != 0 {
			t.Error("a refused pick is none")
		}
	}
	m := machine.New(api.Setup{Spins: 99, Fuel: -1, Shape: api.Shape{Words: 999, Start: 1 << 63}}, nil)
	if m.Setup() != (api.Setup{Spins: 4, Shape: api.Shape{Words: 256, Stripes: 1, Wide: 1, Threads: 1, Start: api.MaxClock - 1}}) {
		t.Error(m.Setup())
	}
}

// P28.2, the run of the chapter.
func TestOne(t *testing.T) {
	m := machine.New(setup, [][]api.Prog{jobs(t, "set r0 6 / set r1 7 / store r0 r1 0")})
	want := []int{api.StoreEpoch, api.LoadClock, api.StoreEpoch, api.LoadLock, api.CasLock, api.LoadClock, api.CasClock, api.StoreWord, api.StoreLock, api.StoreEpoch}
	for i, kind := range want {
		if m.Rests() || m.State(0) != api.Running || m.Writing() != (i >= 7) {
			t.Error(i, m.State(0), m.Writing())
		}
		if err := m.Pick(0, 9); err != api.OK || m.Picks() != i+1 {
			t.Error(i, err, m.Picks())
		}
		if o, ok := m.Last(); !ok || o.Kind != kind {
			t.Error(i, o, ok)
		}
		if m.Pick(1, 9) != api.ErrArg || m.Picks() != i+1 {
			t.Error("a refused pick is none")
		}
		if o, ok := m.Last(); !ok || o.Kind != kind {
			t.Error(i, o, ok)
		}
	}
	if m.Words()[6] != 7 || m.Now() != 6 || m.Locks()[6] != (api.Lock{Version: 6}) || !m.Rests() || m.Writing() {
		t.Error(m.Words(), m.Now())
	}
	if !slices.Equal(m.Results(0), []api.Result{{Kind: api.Done, Stamp: 6}}) {
		t.Error(m.Results(0))
	}
	if got := m.Attempts(); len(got) != 1 || got[0].Born != 2 || got[0].Ended != 10 {
		t.Error(got)
	}
	// A pick of one that is Finished does nothing, but is one.
	m.Pick(0, 9)
	if o, ok := m.Last(); ok || o != (api.Op{}) || m.Picks() != 11 {
		t.Error(o, ok, m.Picks())
	}
}

const (
	push = "set r1 7 / call queue.push 0 r1"
	take = "call queue.take 0 r1"
)

// P28.2: who waits is woken by who writes what it has read, and by no other.
func TestWakes(t *testing.T) {
	m := machine.New(setup, [][]api.Prog{jobs(t, push), jobs(t, take), jobs(t, "set r0 10 / load r1 r0 0 / retry"), jobs(t, "set r0 6 / load r1 r0 0 / zero r1 a / jump b / a: retry / b:")})
	for i := 1; i < 4; i++ {
		picks(m, i, 20)
		if m.State(i) != api.Waiting {
			t.Fatal(i, m.State(i))
		}
	}
	before := m.Picks()
	picks(m, 2, 3)
	if o, ok := m.Last(); ok || m.Picks() != before+3 {
		t.Error(o, "a pick of one that waits")
	}
	for m.State(0) != api.Finished {
		m.Pick(0, 0)
		o, _ := m.Last()
		// The root's lock is the one of stripe 6.
		if o.Kind == api.StoreLock && (m.State(1) == api.Running) != (m.Locks()[6].Version == 6) {
			t.Error(o, m.State(1))
		}
	}
	if m.State(1) != api.Running || m.State(2) != api.Waiting || m.State(3) != api.Running || m.Rests() {
		t.Error(m.State(1), m.State(2), m.State(3))
	}
	picks(m, 1, 200)
	picks(m, 3, 200)
	if got := m.Results(1); len(got) != 1 || got[0].Slate != "7" {
		t.Error(got)
	}
	if m.State(3) != api.Waiting && m.State(3) != api.Finished || m.State(2) != api.Waiting || !m.Rests() {
		t.Error(m.State(3), m.Rests())
	}
	// The thread that stored isn't woken by itself, and all attempts are there, thread by thread.
	last := -1
	for _, x := range m.Attempts() {
		if x.Thread < last {
			t.Error("order")
		}
		last = x.Thread
	}
	if last != 3 {
		t.Error(last)
	}
}

// P28.2: pauses go by picks, and draws are told.
func TestPauses(t *testing.T) {
	s := setup
	s.Spins = 0
	add := "set r0 6 / set r1 1 / load r2 r0 0 / add r2 r2 r1 / store r0 r2 0"
	m := machine.New(s, [][]api.Prog{jobs(t, add), jobs(t, add)})
	picks(m, 0, 8) // it holds the lock
	for range 4 {
		m.Pick(1, 0)
	}
	m.Pick(1, 0)
	if m.State(1) != api.Yielding {
		t.Fatal(m.State(1))
	}
	m.Pick(1, 2)
	if m.State(1) != api.Yielding {
		t.Error("thread 0 is at work", m.State(1))
	}
	for m.State(0) != api.Finished {
		m.Pick(0, 0)
	}
	m.Pick(1, 2)
	for range 2 {
		if m.State(1) != api.Pausing {
			t.Error(m.State(1))
		}
		m.Pick(1, 0)
		if _, ok := m.Last(); ok {
			t.Error("a pause is no operation")
		}
	}
	picks(m, 1, 40)
	if m.Words()[6] != 2 || !m.Rests() {
		t.Error(m.Words(), m.State(1))
	}
}

// Examples 1, 9, 10 of the whole; P28.4: somebody goes on, whatever the draws and picks.
func TestGoesOn(t *testing.T) {
	add := "set r0 6 / set r1 1 / load r2 r0 0 / add r2 r2 r1 / store r0 r2 0"
	for seed := range uint64(60) {
		chance := seed
		draw := func(n int) int {
			chance = chance*6364136223846793005 + 1442695040888963407
			return int(chance>>33) % n
		}
		s := setup
		s.Spins, s.Shape.Stripes = draw(3), draw(8)+1
		m := machine.New(s, [][]api.Prog{jobs(t, add, add), jobs(t, add, add), jobs(t, add, add), jobs(t, add, add)})
		for rounds := 0; !m.Rests(); rounds++ {
			if rounds > 5000 {
				t.Fatal("nobody goes on")
			}
			for i := range 4 {
				for range 1 + draw(3)*draw(5) {
					m.Pick(i, uint8(draw(256)*draw(2)))
				}
			}
		}
		if m.Words()[6] != 8 {
			t.Error(seed, m.Words()[6])
		}
	}
	// All in step, and draws that are always the same.
	for d := range 10 {
		m := machine.New(setup, [][]api.Prog{jobs(t, add, add), jobs(t, add, add), jobs(t, add, add)})
		for rounds := 0; !m.Rests(); rounds++ {
			if rounds > 200000 {
				t.Fatal("nobody goes on", d)
			}
			for i := range 3 {
				m.Pick(i, uint8(d))
			}
		}
		if m.Words()[6] != 6 {
			t.Error(d, m.Words()[6])
		}
	}
}

func TestEnds(t *testing.T) {
	// Memory is at its end: the job errs, and all is as it was.
	fill := "set r0 16 / alloc r1 r0"
	m := machine.New(setup, [][]api.Prog{jobs(t, fill, fill, fill)})
	picks(m, 0, 100)
	if got := m.Results(0); len(got) != 3 || got[0].Kind != api.Done || got[1].Kind != api.Erred || got[1].Err != api.ErrFull || got[2].Err != api.ErrFull {
		t.Error(got)
	}
	if w := m.Words(); w[api.Bump] != 31 || w[14] != api.Alive+4 {
		t.Error(w)
	}
	// The clock is at its end: who writes errs; who reads goes on.
	s := setup
	s.Shape.Start = api.MaxClock - 2
	store := "set r0 6 / store r0 r0 0"
	m = machine.New(s, [][]api.Prog{jobs(t, store, store, "set r0 6 / load r1 r0 0 / emit r1")})
	picks(m, 0, 100)
	want := []api.Result{{Kind: api.Done, Stamp: api.MaxClock - 1}, {Kind: api.Erred, Err: api.ErrClock, Stamp: api.MaxClock - 1}, {Kind: api.Done, Slate: "6", Stamp: api.MaxClock - 1}}
	if got := m.Results(0); !slices.Equal(got, want) {
		t.Error(got)
	}
	for _, l := range m.Locks() {
		if l.Held {
			t.Error(l)
		}
	}
}
