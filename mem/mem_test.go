package mem_test

import (
	"slices"
	"testing"

	"quietus/api"
	"quietus/mem"
)

var small = api.Shape{Words: 40, Stripes: 4, Wide: 2, Threads: 3, Start: 5}

// P6.1: Held, and what a new memory is.
func TestHeld(t *testing.T) {
	for _, c := range []struct{ s, want api.Shape }{
		{api.Shape{}, api.Shape{Words: 32, Stripes: 1, Wide: 1, Threads: 1}},
		{api.Shape{Words: -1, Stripes: -1, Wide: -1, Threads: -1, Start: 1<<64 - 1}, api.Shape{Words: 32, Stripes: 1, Wide: 1, Threads: 1, Start: api.MaxClock - 1}},
		{api.Shape{Words: 257, Stripes: 17, Wide: 17, Threads: 5, Start: api.MaxClock}, api.Shape{Words: 256, Stripes: 16, Wide: 16, Threads: 4, Start: api.MaxClock - 1}},
		{small, small},
	} {
		if got := mem.Held(c.s); got != c.want {
			t.Error(c.s, got)
		}
		m := mem.New(c.s)
		if m.Shape() != c.want || len(m.Words()) != c.want.Words || len(m.Locks()) != c.want.Stripes || len(m.Slots()) != c.want.Threads || m.Now() != c.want.Start || m.Count() != 0 {
			t.Error(c.s, m.Shape())
		}
	}
	m := mem.New(small)
	for at, want := range map[int]int{0: 0, 1: 0, 2: 1, 8: 0, 7: 3, -1: -1} {
		if m.Stripe(at) != want {
			t.Error(at, m.Stripe(at))
		}
	}
}

type step struct {
	o    api.Op
	want api.Answer
}

// P6.2, P6.3: each kind, its errors, and the count.
func TestDo(t *testing.T) {
	held := api.Lock{Version: 3, Held: true, Owner: 2}
	bad := api.Lock{Version: 3, Owner: 2}
	steps := []step{
		{api.Op{Kind: api.LoadWord, At: 39}, api.Answer{}},
		{api.Op{Kind: api.StoreWord, At: 39, Word: 7}, api.Answer{}},
		{api.Op{Kind: api.LoadWord, At: 39}, api.Answer{Word: 7}},
		{api.Op{Kind: api.LoadWord}, api.Answer{Err: api.ErrAddr}},
		{api.Op{Kind: api.LoadWord, At: 40}, api.Answer{Err: api.ErrAddr}},
		{api.Op{Kind: api.StoreWord, At: 40}, api.Answer{Err: api.ErrAddr}},
		{api.Op{Kind: api.LoadLock, At: 3}, api.Answer{}},
		{api.Op{Kind: api.LoadLock, At: 4}, api.Answer{Err: api.ErrAddr}},
		{api.Op{Kind: api.CasLock, At: 3, Was: held, Lock: held}, api.Answer{}},
		{api.Op{Kind: api.CasLock, At: 3, Lock: held}, api.Answer{Done: true}},
		{api.Op{Kind: api.LoadLock, At: 3}, api.Answer{Lock: held}},
		{api.Op{Kind: api.CasLock, At: 3, Was: held, Lock: bad}, api.Answer{Err: api.ErrArg}},
		{api.Op{Kind: api.CasLock, At: -1, Was: held, Lock: bad}, api.Answer{Err: api.ErrAddr}},
		{api.Op{Kind: api.StoreLock, At: 3, Lock: bad}, api.Answer{Err: api.ErrArg}},
		{api.Op{Kind: api.StoreLock, At: 4, Lock: bad}, api.Answer{Err: api.ErrAddr}},
		{api.Op{Kind: api.StoreLock, At: 3, Lock: api.Lock{Version: 8}}, api.Answer{}},
		{api.Op{Kind: api.LoadLock, At: 3}, api.Answer{Lock: api.Lock{Version: 8}}},
		{api.Op{Kind: api.LoadClock, At: -7, Was: bad}, api.Answer{Word: 5}},
		{api.Op{Kind: api.CasClock, Old: 5, Word: 5}, api.Answer{Err: api.ErrArg}},
		{api.Op{Kind: api.CasClock, Old: 5, Word: api.MaxClock}, api.Answer{Err: api.ErrClock}},
		{api.Op{Kind: api.CasClock, Old: 4, Word: 9}, api.Answer{}},
		{api.Op{Kind: api.CasClock, Old: 5, Word: 9}, api.Answer{Done: true}},
		{api.Op{Kind: api.LoadClock}, api.Answer{Word: 9}},
		{api.Op{Kind: api.StoreEpoch, At: 2, Word: 6}, api.Answer{}},
		{api.Op{Kind: api.LoadEpoch, At: 2}, api.Answer{Word: 6}},
		{api.Op{Kind: api.LoadEpoch, At: 3}, api.Answer{Err: api.ErrAddr}},
		{api.Op{Kind: api.StoreEpoch, At: -1}, api.Answer{Err: api.ErrAddr}},
		{api.Op{}, api.Answer{Err: api.ErrArg}},
		{api.Op{Kind: api.StoreEpoch + 1}, api.Answer{Err: api.ErrArg}},
		{api.Op{Kind: -1}, api.Answer{Err: api.ErrArg}},
	}
	m, count := mem.New(small), 0
	for i, s := range steps {
		if got := m.Do(s.o); got != s.want {
			t.Error(i, s.o, got)
		}
		if s.want.Err == api.OK {
			count++
		}
		if m.Count() != count {
			t.Error(i, m.Count(), count)
		}
	}
	if m.Words()[39] != 7 || m.Locks()[3] != (api.Lock{Version: 8}) || m.Now() != 9 || m.Slots()[2] != 6 {
		t.Error(m.Words(), m.Locks(), m.Now(), m.Slots())
	}
}

// P6.3: Copy; neither touches the other.
func TestCopy(t *testing.T) {
	m := mem.New(small)
	m.Do(api.Op{Kind: api.StoreWord, At: 9, Word: 1})
	c := m.Copy()
	if c.Shape() != m.Shape() || c.Count() != 1 || c.Words()[9] != 1 || c.Stripe(5) != m.Stripe(5) {
		t.Error(c.Shape(), c.Count(), c.Words())
	}
	words, locks, slots := m.Words(), m.Locks(), m.Slots()
	for _, o := range []api.Op{{Kind: api.StoreWord, At: 9, Word: 2}, {Kind: api.StoreLock, At: 1, Lock: api.Lock{Version: 4}}, {Kind: api.CasClock, Old: 5, Word: 6}, {Kind: api.StoreEpoch, At: 1, Word: 3}} {
		c.Do(o)
	}
	if !slices.Equal(m.Words(), words) || !slices.Equal(m.Locks(), locks) || !slices.Equal(m.Slots(), slots) || m.Now() != 5 || m.Count() != 1 {
		t.Error("the copy touched it")
	}
	if c.Words()[9] != 2 || c.Locks()[1].Version != 4 || c.Now() != 6 || c.Slots()[1] != 3 || c.Count() != 5 {
		t.Error("the copy isn't one of its own")
	}
	words[9], locks[1].Version, slots[1] = 77, 77, 77
	if m.Words()[9] != 1 || m.Locks()[1].Version != 0 || m.Slots()[1] != 0 {
		t.Error("an answer is shared")
	}
}
