package stripe_test

import (
	"slices"
	"testing"

	"quietus/api"
	"quietus/stripe"
)

// P3.1: which stripe a place is of.
func TestOf(t *testing.T) {
	for _, c := range []struct{ at, n, wide, want int }{
		{0, 4, 2, 0}, {1, 4, 2, 0}, {2, 4, 2, 1}, {3, 4, 2, 1}, {7, 4, 2, 3}, {8, 4, 2, 0},
		{-1, 4, 2, -1}, {-1 << 63, 4, 2, -1},
		{5, 0, 0, 0}, {5, -7, 1, 0}, {5, 4, -3, 1}, {5, 4, 0, 1},
		{31, 16, 1, 15}, {31, 17, 1, 15}, {16, 1000, 1, 0},
		{15, 4, 16, 0}, {16, 4, 16, 1}, {16, 4, 17, 1}, {33, 4, 1 << 40, 2},
		{1<<63 - 1, 16, 1, 15},
	} {
		if got := stripe.Of(c.at, c.n, c.wide); got != c.want {
			t.Error(c, got)
		}
		if got := stripe.New(c.n, c.wide).Of(c.at); got != c.want {
			t.Error("table", c, got)
		}
	}
}

// P3.1: a new table.
func TestNew(t *testing.T) {
	for n, want := range map[int]int{-5: 1, 0: 1, 1: 1, 4: 4, 16: 16, 17: 16, 1 << 40: 16} {
		x := stripe.New(n, 1)
		if x.Len() != want || len(x.All()) != want {
			t.Error(n, x.Len())
		}
		for _, l := range x.All() {
			if l != (api.Lock{}) {
				t.Error(n, l)
			}
		}
	}
}

// P3.2: Load and Store.
func TestLoadStore(t *testing.T) {
	x := stripe.New(4, 2)
	held := api.Lock{Version: 6, Held: true, Owner: 3}
	if err := x.Store(3, held); err != api.OK {
		t.Error(err)
	}
	if l, err := x.Load(3); err != api.OK || l != held {
		t.Error(l, err)
	}
	if l, err := x.Load(2); err != api.OK || l != (api.Lock{}) {
		t.Error(l, err)
	}
	bad := api.Lock{Version: 6, Owner: 3}
	for _, i := range []int{-1, 4, 1 << 40} {
		if l, err := x.Load(i); err != api.ErrAddr || l != (api.Lock{}) {
			t.Error(i, l, err)
		}
		if err := x.Store(i, bad); err != api.ErrAddr {
			t.Error(i, err)
		}
		if ok, err := x.Cas(i, bad, bad); ok || err != api.ErrAddr {
			t.Error(i, ok, err)
		}
	}
	if err := x.Store(3, bad); err != api.ErrArg {
		t.Error(err)
	}
	if l, _ := x.Load(3); l != held {
		t.Error(l)
	}
}

// P3.2: Cas goes by all parts of the lock, and asks nothing of was.
func TestCas(t *testing.T) {
	x := stripe.New(2, 1)
	free, held := api.Lock{Version: 5}, api.Lock{Version: 5, Held: true, Owner: 1}
	if ok, err := x.Cas(1, api.Lock{}, held); !ok || err != api.OK {
		t.Error(ok, err)
	}
	for _, was := range []api.Lock{{Version: 4, Held: true, Owner: 1}, {Version: 5, Held: true, Owner: 2}, {Version: 5}, {Version: 5, Owner: 1}, {Version: 1 << 63, Held: true, Owner: 77}} {
		if ok, err := x.Cas(1, was, free); ok || err != api.OK {
			t.Error(was, ok, err)
		}
	}
	if l, _ := x.Load(1); l != held {
		t.Error(l)
	}
	if ok, err := x.Cas(1, held, api.Lock{Version: api.MaxClock}); ok || err != api.ErrArg {
		t.Error(ok, err)
	}
	if ok, err := x.Cas(1, held, free); !ok || err != api.OK {
		t.Error(ok, err)
	}
	if l, _ := x.Load(1); l != free {
		t.Error(l)
	}
}

// P3.3: Held, All, Copy.
func TestHeldAllCopy(t *testing.T) {
	x := stripe.New(5, 3)
	for _, i := range []int{4, 1} {
		x.Store(i, api.Lock{Version: 2, Held: true, Owner: 2})
	}
	x.Store(0, api.Lock{Version: 2, Held: true})
	for owner, want := range map[int][]int{0: {0}, 1: nil, 2: {1, 4}, 3: nil, -1: nil, 99: nil} {
		if got := x.Held(owner); !slices.Equal(got, want) {
			t.Error(owner, got)
		}
	}
	all := x.All()
	all[0] = api.Lock{}
	c := x.Copy()
	if !slices.Equal(c.All(), x.All()) || c.Of(7) != x.Of(7) {
		t.Error(c.All())
	}
	c.Store(1, api.Lock{})
	x.Store(2, api.Lock{Version: 9})
	if !slices.Equal(x.Held(2), []int{1, 4}) || !slices.Equal(x.Held(0), []int{0}) {
		t.Error(x.All())
	}
	if l, _ := c.Load(2); l != (api.Lock{}) {
		t.Error(l)
	}
}
