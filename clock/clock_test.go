package clock_test

import (
	"testing"

	"quietus/api"
	"quietus/clock"
)

// P4.1: where it starts.
func TestNew(t *testing.T) {
	for start, want := range map[uint64]uint64{
		0: 0, 5: 5, api.MaxClock - 2: api.MaxClock - 2, api.MaxClock - 1: api.MaxClock - 1,
		api.MaxClock: api.MaxClock - 1, 1<<64 - 1: api.MaxClock - 1,
	} {
		if got := clock.New(start).Load(); got != want {
			t.Error(start, got)
		}
	}
}

// P4.1: Cas, and the order of its refusals.
func TestCas(t *testing.T) {
	c := clock.New(5)
	for i, q := range []struct {
		old, now uint64
		ok       bool
		err      api.Errno
		at       uint64
	}{
		{5, 6, true, api.OK, 6},
		{5, 7, false, api.OK, 6},
		{6, 6, false, api.ErrArg, 6},
		{6, 5, false, api.ErrArg, 6},
		{9, 3, false, api.ErrArg, 6},
		{1<<64 - 1, 1<<64 - 1, false, api.ErrArg, 6},
		{6, api.MaxClock, false, api.ErrClock, 6},
		{7, 1<<64 - 1, false, api.ErrClock, 6},
		{6, 100, true, api.OK, 100},
		{100, api.MaxClock - 1, true, api.OK, api.MaxClock - 1},
		{api.MaxClock - 1, api.MaxClock, false, api.ErrClock, api.MaxClock - 1},
	} {
		ok, err := c.Cas(q.old, q.now)
		if ok != q.ok || err != q.err || c.Load() != q.at {
			t.Error(i, ok, err, c.Load())
		}
	}
}

// P4.1: Copy.
func TestCopy(t *testing.T) {
	a := clock.New(5)
	b := a.Copy()
	a.Cas(5, 6)
	if b.Load() != 5 {
		t.Error(b.Load())
	}
	b.Cas(5, 9)
	if a.Load() != 6 {
		t.Error(a.Load())
	}
}
