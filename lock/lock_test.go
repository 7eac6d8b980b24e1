package lock_test

import (
	"testing"

	"quietus/api"
	"quietus/lock"
)

// P1.1: which locks can be.
func TestIs(t *testing.T) {
	for _, c := range []struct {
		l    api.Lock
		want bool
	}{
		{api.Lock{}, true},
		{api.Lock{Version: api.MaxClock - 1}, true},
		{api.Lock{Version: api.MaxClock}, false},
		{api.Lock{Version: 1<<64 - 1}, false},
		{api.Lock{Version: 9, Held: true}, true},
		{api.Lock{Version: 9, Held: true, Owner: api.MaxThreads - 1}, true},
		{api.Lock{Version: 9, Held: true, Owner: api.MaxThreads}, false},
		{api.Lock{Version: 9, Held: true, Owner: -1}, false},
		{api.Lock{Version: 9, Owner: 1}, false},
		{api.Lock{Version: 9, Owner: -1}, false},
		{api.Lock{Version: api.MaxClock, Held: true}, false},
	} {
		if got := lock.Is(c.l); got != c.want {
			t.Errorf("Is(%v) = %v", c.l, got)
		}
	}
}

// P1.1: Free.
func TestFree(t *testing.T) {
	for _, v := range []uint64{0, 5, api.MaxClock - 1} {
		if l, ok := lock.Free(v); !ok || l != (api.Lock{Version: v}) {
			t.Error(v, l, ok)
		}
	}
	for _, v := range []uint64{api.MaxClock, 1<<64 - 1} {
		if l, ok := lock.Free(v); ok || l != (api.Lock{}) {
			t.Error(v, l, ok)
		}
	}
}

// P1.2: Take.
func TestTake(t *testing.T) {
	for owner := range api.MaxThreads {
		l, ok := lock.Take(api.Lock{Version: 4}, owner)
		if !ok || l != (api.Lock{Version: 4, Held: true, Owner: owner}) {
			t.Error(owner, l, ok)
		}
	}
	for _, c := range []struct {
		l     api.Lock
		owner int
	}{
		{api.Lock{Version: 4}, -1},
		{api.Lock{Version: 4}, api.MaxThreads},
		{api.Lock{Version: 4, Held: true}, 0},
		{api.Lock{Version: 4, Owner: 2}, 1},
		{api.Lock{Version: api.MaxClock}, 1},
	} {
		if l, ok := lock.Take(c.l, c.owner); ok || l != (api.Lock{}) {
			t.Error(c, l, ok)
		}
	}
}

// P1.2: Drop.
func TestDrop(t *testing.T) {
	held := api.Lock{Version: 4, Held: true, Owner: 3}
	for _, v := range []uint64{4, 5, api.MaxClock - 1} {
		if l, ok := lock.Drop(held, v); !ok || l != (api.Lock{Version: v}) {
			t.Error(v, l, ok)
		}
	}
	for _, v := range []uint64{3, 0, api.MaxClock, 1<<64 - 1} {
		if l, ok := lock.Drop(held, v); ok || l != (api.Lock{}) {
			t.Error(v, l, ok)
		}
	}
	for _, l := range []api.Lock{{Version: 4}, {Version: 4, Held: true, Owner: 4}, {Version: api.MaxClock, Held: true}} {
		if got, ok := lock.Drop(l, api.MaxClock-1); ok || got != (api.Lock{}) {
			t.Error(l, got, ok)
		}
	}
}

// P1.2: Fits.
func TestFits(t *testing.T) {
	for _, c := range []struct {
		l     api.Lock
		stamp uint64
		want  bool
	}{
		{api.Lock{Version: 5}, 5, true},
		{api.Lock{Version: 5}, 1<<64 - 1, true},
		{api.Lock{Version: 5}, 4, false},
		{api.Lock{Version: 5, Held: true, Owner: 1}, 9, false},
		{api.Lock{Version: 5, Owner: 1}, 9, false},
		{api.Lock{Version: api.MaxClock}, 1<<64 - 1, false},
	} {
		if got := lock.Fits(c.l, c.stamp); got != c.want {
			t.Error(c, got)
		}
	}
}

// P1.3: Bytes and Read are each other's way back.
func TestBytes(t *testing.T) {
	for s, l := range map[string]api.Lock{
		"\x00\x00\x00\x00\x00\x00\x00\x05\x03": {Version: 5, Held: true, Owner: 2},
		"\x01\x23\x45\x67\x89\xab\xcd\xef\x00": {Version: 0x0123456789abcdef},
		"\x3f\xff\xff\xff\xff\xff\xff\xff\x04": {Version: api.MaxClock - 1, Held: true, Owner: 3},
		"\x00\x00\x00\x00\x00\x00\x00\x00\x01": {Held: true},
		"\x00\x00\x00\x00\x00\x00\x00\x00\x00": {},
	} {
		if got := lock.Bytes(l); got != s {
			t.Errorf("Bytes(%v) = %q", l, got)
		}
		if got, ok := lock.Read(s); !ok || got != l {
			t.Errorf("Read(%q) = %v, %v", s, got, ok)
		}
	}
	for _, l := range []api.Lock{{Version: api.MaxClock}, {Owner: 1}, {Held: true, Owner: 4}, {Held: true, Owner: 255}, {Held: true, Owner: -1}} {
		if got := lock.Bytes(l); got != "" {
			t.Errorf("Bytes(%v) = %q", l, got)
		}
	}
}

// P1.3: Read of what no lock's bytes are.
func TestReadRefuses(t *testing.T) {
	for _, s := range []string{
		"", "\x00", "\x00\x00\x00\x00\x00\x00\x00\x05",
		"\x00\x00\x00\x00\x00\x00\x00\x05\x00\x00",
		"\x00\x00\x00\x00\x00\x00\x00\x05\x05",
		"\x00\x00\x00\x00\x00\x00\x00\x05\xff",
		"\x40\x00\x00\x00\x00\x00\x00\x00\x00",
		"\xff\xff\xff\xff\xff\xff\xff\xff\x01",
	} {
		if l, ok := lock.Read(s); ok || l != (api.Lock{}) {
			t.Errorf("Read(%q) = %v, %v", s, l, ok)
		}
	}
}
