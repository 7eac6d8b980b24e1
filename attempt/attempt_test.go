package attempt_test

import (
	"slices"
	"strings"
	"testing"

	"quietus/api"
	"quietus/attempt"
	"quietus/mem"
	"quietus/text"
)

var setup = api.Setup{Shape: api.Shape{Words: 40, Stripes: 8, Wide: 1, Threads: 3, Start: 5}, Spins: 1, Writes: 20, Fuel: 100}

const me = 1

func prog(t *testing.T, s string) api.Prog {
	t.Helper()
	p, line, col, err := text.Parse(strings.ReplaceAll(s, " / ", "\n"))
	if err != api.OK {
		t.Fatal(s, line, col, err)
	}
	return p
}

// memory makes a memory whose words are a fresh heap's.
func memory() *mem.Mem {
	m := mem.New(setup.Shape)
	m.Do(api.Op{Kind: api.StoreWord, At: api.Bump, Word: api.First})
	return m
}

func do(t *testing.T, m *mem.Mem, o api.Op) {
	t.Helper()
	if a := m.Do(o); a.Err != api.OK {
		t.Fatal(o, a.Err)
	}
}

func store(at int, w uint64) api.Op { return api.Op{Kind: api.StoreWord, At: at, Word: w} }

func lock(at int, l api.Lock) api.Op { return api.Op{Kind: api.StoreLock, At: at, Lock: l} }

func tick(now uint64) api.Op { return api.Op{Kind: api.CasClock, Old: now, Word: now + 1} }

// ops names operations by their kinds: W w words, L C S locks, T Y the clock, e E epochs.
const ops = "?wWLCSTYeE"

// drive does an attempt to its end, or a number of operations of it; ahead of the
// n-th of these what between has there is done on the memory. It answers the kinds.
func drive(t *testing.T, x *attempt.Attempt, m *mem.Mem, most int, between map[int][]api.Op) string {
	t.Helper()
	kinds := ""
	for n := 0; n < most; n++ {
		o, ok := x.Next()
		if !ok {
			break
		}
		if x.End() != api.Going || x.By() != -1 || x.Err() != api.OK {
			t.Error("it ended too early")
		}
		for _, b := range between[n] {
			do(t, m, b)
		}
		kinds += ops[o.Kind : o.Kind+1]
		x.Tell(m.Do(o))
	}
	return kinds
}

// ends drives an attempt to its end, and holds that against what is asked.
func ends(t *testing.T, x *attempt.Attempt, m *mem.Mem, between map[int][]api.Op, kinds string, end int, err api.Errno, by int) {
	t.Helper()
	if got := drive(t, x, m, 1000, between); got != kinds || x.End() != end || x.Err() != err || x.By() != by {
		t.Error(got, x.End(), x.Err(), x.By())
	}
	x.Tell(api.Answer{Err: api.ErrUser})
	if o, ok := x.Next(); ok || o != (api.Op{}) || x.End() != end || x.Writing() || x.Blocking() {
		t.Error("it has ended")
	}
	if end != api.Done && (len(x.Cells()) > 0 || len(x.Frees()) > 0 || x.Slate() != "") {
		t.Error("nothing came of it", x.Cells(), x.Frees(), x.Slate())
	}
}

// P26.1: Held.
func TestHeld(t *testing.T) {
	for _, c := range []struct{ s, want api.Setup }{
		{api.Setup{}, api.Setup{Shape: api.Shape{Words: 32, Stripes: 1, Wide: 1, Threads: 1}}},
		{api.Setup{Spins: 5, Writes: 97, Fuel: 401, Shape: api.Shape{Words: 999, Stripes: 99, Wide: 99, Threads: 99, Start: 1 << 63}}, api.Setup{Spins: 4, Writes: 96, Fuel: 400, Shape: api.Shape{Words: 256, Stripes: 16, Wide: 16, Threads: 4, Start: api.MaxClock - 1}}},
		{api.Setup{Spins: -1, Writes: -1, Fuel: -1}, api.Setup{Shape: api.Shape{Words: 32, Stripes: 1, Wide: 1, Threads: 1}}},
		{setup, setup},
	} {
		if got := attempt.Held(c.s); got != c.want {
			t.Error(got)
		}
	}
}

// P26.1, P26.3, the run of the chapter.
func TestBegins(t *testing.T) {
	m := memory()
	x := attempt.New(me, setup, prog(t, "set r0 1 / emit r0"))
	want := []api.Op{{Kind: api.StoreEpoch, At: me, Word: 1}, {Kind: api.LoadClock}, {Kind: api.StoreEpoch, At: me, Word: 6}, {Kind: api.StoreEpoch, At: me}}
	for i, w := range want {
		begin, begun := x.Begin()
		if begun != (i >= 2) || begin != x.Stamp() || begun && begin != 5 || !begun && begin != 0 || x.Slate() != "" {
			t.Error(i, begin, begun, x.Stamp())
		}
		o, ok := x.Next()
		if !ok || o != w {
			t.Error(i, o, ok)
		}
		x.Tell(m.Do(o))
	}
	if x.End() != api.Done || x.By() != -1 || x.Slate() != "1" || x.Stamp() != 5 || m.Slots()[me] != 0 || m.Now() != 5 {
		t.Error(x.End(), x.Slate(), x.Stamp())
	}
}

// P26.2: reads, and writes back.
func TestCommits(t *testing.T) {
	m := memory()
	do(t, m, store(7, 70))
	x := attempt.New(me, setup, prog(t, "set r0 6 / load r1 r0 1 / emit r1 / store r0 r1 0 / store r0 r1 2 / load r2 r0 2"))
	if got := drive(t, x, m, 12, nil); got != "ETELwLLCLCTY" {
		t.Error(got)
	}
	for i := range 6 {
		last := i == 5
		if x.Writing() == last || x.Stamp() != 6 || x.Slate() != "70" || !slices.Equal(x.Cells(), []api.Cell{{At: 6, Word: 70}, {At: 8, Word: 70}}) || (x.End() == api.Done) != last {
			t.Error(i, x.Writing(), x.Stamp(), x.Cells())
		}
		drive(t, x, m, 1, nil)
	}
	if x.Err() != api.OK || m.Words()[6] != 70 || m.Words()[8] != 70 || m.Now() != 6 || m.Slots()[me] != 0 {
		t.Error(x.End(), m.Words())
	}
	if m.Locks()[6] != (api.Lock{Version: 6}) || m.Locks()[0] != (api.Lock{Version: 6}) || m.Locks()[7] != (api.Lock{}) {
		t.Error(m.Locks())
	}
	if !slices.Equal(x.Seen(), []api.Seen{{Stripe: 7}}) || !slices.Equal(x.Reads(), []api.Cell{{At: 7, Word: 70}}) {
		t.Error(x.Seen(), x.Reads())
	}
	if begin, ok := x.Begin(); begin != 5 || !ok {
		t.Error(begin)
	}
}

// P26.2: a word that is younger than the stamp.
func TestExtends(t *testing.T) {
	younger := []api.Op{store(7, 71), tick(5), lock(7, api.Lock{Version: 6})}
	p := prog(t, "set r0 6 / load r1 r0 0 / load r2 r0 1 / emit r2")
	m := memory()
	x := attempt.New(me, setup, p)
	ends(t, x, m, map[int][]api.Op{6: younger}, "ETELwLLTLLwLE", api.Done, api.OK, -1)
	if x.Stamp() != 6 || x.Slate() != "71" || m.Now() != 6 {
		t.Error(x.Stamp(), x.Slate())
	}
	if begin, _ := x.Begin(); begin != 5 {
		t.Error(begin)
	}
	// What was read ahead of it doesn't stand any more.
	m = memory()
	x = attempt.New(me, setup, p)
	ends(t, x, m, map[int][]api.Op{6: append(slices.Clone(younger), lock(6, api.Lock{Version: 6}))}, "ETELwLLTLE", api.Conflict, api.OK, -1)
	if x.Stamp() != 5 {
		t.Error(x.Stamp())
	}
	// Somebody holds what was read ahead of it.
	m = memory()
	x = attempt.New(me, setup, p)
	ends(t, x, m, map[int][]api.Op{6: append(slices.Clone(younger), lock(6, api.Lock{Held: true}))}, "ETELwLLTLLE", api.Conflict, api.OK, 0)
	// And what is to be read.
	m = memory()
	x = attempt.New(me, setup, p)
	ends(t, x, m, map[int][]api.Op{3: {lock(6, api.Lock{Held: true})}}, "ETELLE", api.Conflict, api.OK, 0)
}

// P26.2: a stripe that was read at another version is stale, though both are old enough.
func TestStale(t *testing.T) {
	s := setup
	s.Shape.Wide = 2
	m := memory()
	x := attempt.New(me, s, prog(t, "set r0 6 / load r1 r0 0 / load r2 r0 1"))
	ends(t, x, m, map[int][]api.Op{6: {lock(3, api.Lock{Version: 4})}}, "ETELwLLwLE", api.Conflict, api.OK, -1)
}

// P26.2: conflicts of the commit.
func TestCommitConflicts(t *testing.T) {
	p := prog(t, "set r0 6 / load r1 r0 0 / store r0 r0 1")
	m := memory()
	ends(t, attempt.New(me, setup, p), m, map[int][]api.Op{6: {lock(7, api.Lock{Held: true, Owner: 0})}}, "ETELwLLLE", api.Conflict, api.OK, 0)
	m = memory()
	ends(t, attempt.New(me, setup, p), m, map[int][]api.Op{6: {tick(5), lock(6, api.Lock{Version: 6})}}, "ETELwLLCTYLSE", api.Conflict, api.OK, -1)
	if m.Locks()[7] != (api.Lock{}) || m.Words()[7] != 0 {
		t.Error(m.Locks(), m.Words())
	}
	s := setup
	s.Shape.Start = api.MaxClock - 1
	m = mem.New(s.Shape)
	x := attempt.New(me, s, p)
	ends(t, x, m, nil, "ETELwLLCTSE", api.Erred, api.ErrClock, -1)
	if m.Slots()[me] != 0 || x.Stamp() != api.MaxClock-1 {
		t.Error(m.Slots(), x.Stamp())
	}
	// Who reads goes on at the clock's end.
	m = mem.New(s.Shape)
	ends(t, attempt.New(me, s, prog(t, "set r0 6 / load r1 r0 0")), m, nil, "ETELwLE", api.Done, api.OK, -1)
}

// P26.2, P26.5: who waits.
func TestBlocks(t *testing.T) {
	p := prog(t, "set r0 6 / load r1 r0 0 / store r0 r0 1 / emit r1 / retry")
	m := memory()
	x := attempt.New(me, setup, p)
	if got := drive(t, x, m, 6, map[int][]api.Op{5: {tick(5)}}); got != "ETELwL" || !x.Blocking() {
		t.Error(got, x.Blocking())
	}
	if got := drive(t, x, m, 2, nil); got != "TL" || !x.Blocking() {
		t.Error(got, x.Blocking())
	}
	ends(t, x, m, nil, "E", api.Blocked, api.OK, -1)
	if x.Stamp() != 6 || !slices.Equal(x.Seen(), []api.Seen{{Stripe: 6}}) {
		t.Error(x.Stamp(), x.Seen())
	}
	m = memory()
	x = attempt.New(me, setup, p)
	ends(t, x, m, map[int][]api.Op{6: {lock(6, api.Lock{Version: 1})}}, "ETELwLTLE", api.Conflict, api.OK, -1)
	m = memory()
	x = attempt.New(me, setup, p)
	ends(t, x, m, map[int][]api.Op{7: {lock(6, api.Lock{Held: true, Owner: 0})}}, "ETELwLTLLE", api.Conflict, api.OK, 0)
	ends(t, attempt.New(me, setup, prog(t, "retry")), memory(), nil, "ETETE", api.Blocked, api.OK, -1)
}

// P26.2, P26.3: errors.
func TestErrs(t *testing.T) {
	for s, want := range map[string]struct {
		kinds string
		err   api.Errno
	}{
		"fail":                           {"ETEE", api.ErrUser},
		"open":                           {"ETEE", api.ErrForm},
		"a: jump a":                      {"ETEE", api.ErrFuel},
		"set r0 40 / load r0 r0 0":       {"ETEE", api.ErrAddr},
		"set r0 6 / load r1 r0 0 / fail": {"ETELwLE", api.ErrUser},
	} {
		x := attempt.New(me, setup, prog(t, s))
		ends(t, x, memory(), nil, want.kinds, api.Erred, want.err, -1)
	}
	// An answer's error ends it at once.
	p := prog(t, "set r0 6 / load r1 r0 0 / store r0 r0 1")
	for n := range 12 {
		m := memory()
		x := attempt.New(me, setup, p)
		drive(t, x, m, n, nil)
		x.Tell(api.Answer{Err: api.ErrUser, Word: 3})
		if x.End() != api.Erred || x.Err() != api.ErrUser || x.By() != -1 || x.Writing() || len(x.Cells()) > 0 {
			t.Error(n, x.End(), x.Err())
		}
		if _, ok := x.Next(); ok {
			t.Error(n, "it goes on")
		}
	}
	ends(t, attempt.New(7, setup, p), memory(), nil, "E", api.Erred, api.ErrAddr, -1)
	// A version that can be none, at a stamp that can be none: another error of reads' Add.
	x := attempt.New(me, setup, p)
	odd := api.Answer{Lock: api.Lock{Version: api.MaxClock}}
	for _, a := range []api.Answer{{}, {Word: 1<<64 - 1}, {}, odd, {}, odd} {
		x.Tell(a)
	}
	if o, ok := x.Next(); !ok || o != (api.Op{Kind: api.StoreEpoch, At: me}) {
		t.Error(o, ok)
	}
	x.Tell(api.Answer{})
	if x.End() != api.Erred || x.Err() != api.ErrArg || x.By() != -1 {
		t.Error(x.End(), x.Err())
	}
}

// P26.4, P26.5: a sweep.
func TestSweep(t *testing.T) {
	m := memory()
	for _, o := range []api.Op{store(api.Bump, 25), store(14, 2), store(19, 1), store(22, 9), store(api.Heads, 20)} {
		do(t, m, o)
	}
	blocks := []int{15, 20}
	x := attempt.Sweep(me, setup, blocks)
	blocks[0] = 99
	for x.End() == api.Going {
		o, _ := x.Next()
		x.Tell(m.Do(o))
		if x.Writing() != (len(x.Cells()) > 0) && x.End() == api.Going || x.Blocking() {
			t.Error("writing")
		}
	}
	if x.End() != api.Done || x.Slate() != "" || !slices.Equal(x.Frees(), []int{15, 20}) || x.Stamp() != 6 {
		t.Error(x.End(), x.Slate(), x.Frees())
	}
	if !slices.Equal(x.Cells(), []api.Cell{{At: 15}, {At: api.Heads + 1, Word: 15}, {At: 20, Word: 20}, {At: api.Heads, Word: 20}}) {
		t.Error(x.Cells())
	}
	if w := m.Words(); w[api.Heads+1] != 15 || w[api.Heads] != 20 {
		t.Error(w)
	}
	// A block that may not be given, and none at all.
	x = attempt.Sweep(me, setup, []int{15, 23})
	ends(t, x, m, nil, "ETELwLLwLLwLE", api.Erred, api.ErrAddr, -1)
	x = attempt.Sweep(me, setup, nil)
	ends(t, x, m, nil, "ETEE", api.Done, api.OK, -1)
	x = attempt.Sweep(me, setup, []int{1 << 40})
	ends(t, x, m, nil, "ETEE", api.Erred, api.ErrAddr, -1)
}

// R2: programs and answers are copies.
func TestCopies(t *testing.T) {
	m := memory()
	p := prog(t, "set r0 6 / load r1 r0 0 / store r0 r0 1 / set r0 2 / alloc r1 r0 / free r1")
	x := attempt.New(me, setup, p)
	for i := range p.L {
		p.L[i] = api.Ins{Op: api.IFail}
	}
	drive(t, x, m, 1000, nil)
	if x.End() != api.Done {
		t.Fatal(x.Err())
	}
	x.Cells()[0].Word = 99
	x.Frees()[0] = 99
	x.Seen()[0].Version = 99
	x.Reads()[0].Word = 99
	if x.Cells()[0].Word != 6 || x.Frees()[0] != 15 || x.Seen()[0].Version != 0 || x.Reads()[0].Word != 0 {
		t.Error("shared")
	}
}
