package reads_test

import (
	"slices"
	"testing"

	"quietus/api"
	"quietus/reads"
)

// P7.1: Add in its order of refusals, Get.
func TestAdd(t *testing.T) {
	r := reads.New(2)
	for i, c := range []struct {
		x    api.Seen
		want api.Errno
	}{
		{api.Seen{Stripe: 3, Version: 5}, api.OK},
		{api.Seen{Stripe: 3, Version: 5}, api.OK},
		{api.Seen{Stripe: 3, Version: 6}, api.ErrStale},
		{api.Seen{Stripe: 3, Version: api.MaxClock}, api.ErrArg},
		{api.Seen{Stripe: -1}, api.ErrArg},
		{api.Seen{Stripe: api.MaxStripes}, api.ErrArg},
		{api.Seen{Stripe: 15, Version: api.MaxClock - 1}, api.OK},
		{api.Seen{Stripe: 0, Version: 1}, api.ErrLog},
		{api.Seen{Stripe: 15, Version: 1}, api.ErrStale},
		{api.Seen{Stripe: 15, Version: api.MaxClock - 1}, api.OK},
		{api.Seen{Stripe: 99, Version: 1}, api.ErrArg},
	} {
		if got := r.Add(c.x); got != c.want {
			t.Error(i, c.x, got)
		}
	}
	want := []api.Seen{{Stripe: 3, Version: 5}, {Stripe: 15, Version: api.MaxClock - 1}}
	if !slices.Equal(r.All(), want) || r.Len() != 2 {
		t.Error(r.All(), r.Len())
	}
	r.All()[0].Version = 9
	if v, ok := r.Get(3); v != 5 || !ok {
		t.Error(v, ok)
	}
	for _, s := range []int{0, -1, 99} {
		if v, ok := r.Get(s); v != 0 || ok {
			t.Error(s, v, ok)
		}
	}
}

// P7.1: room is brought to 1..MaxReads.
func TestRoom(t *testing.T) {
	for most, want := range map[int]int{-4: 1, 0: 1, 1: 1, 5: 5, 16: 16, 17: 16, 1 << 40: 16} {
		r := reads.New(most)
		for s := range api.MaxStripes {
			r.Add(api.Seen{Stripe: s})
		}
		if r.Len() != want {
			t.Error(most, r.Len())
		}
	}
}

// P7.2: Stands.
func TestStands(t *testing.T) {
	r := reads.New(4)
	if !r.Stands(nil) {
		t.Error("nothing was read")
	}
	r.Add(api.Seen{Stripe: 2, Version: 5})
	r.Add(api.Seen{Stripe: 0, Version: 3})
	for i, c := range []struct {
		locks []api.Lock
		want  bool
	}{
		{[]api.Lock{{Version: 3}, {Version: 9, Held: true}, {Version: 5}}, true},
		{[]api.Lock{{Version: 3}, {}, {Version: 5}, {Held: true}}, true},
		{[]api.Lock{{Version: 3}, {}}, false},
		{nil, false},
		{[]api.Lock{{Version: 3}, {}, {Version: 6}}, false},
		{[]api.Lock{{Version: 3}, {}, {Version: 4}}, false},
		{[]api.Lock{{Version: 3}, {}, {Version: 5, Held: true}}, false},
		{[]api.Lock{{Version: 2}, {}, {Version: 5}}, false},
	} {
		if r.Stands(c.locks) != c.want {
			t.Error(i)
		}
	}
}
