package thread_test

import (
	"reflect"
	"slices"
	"strings"
	"testing"

	"quietus/api"
	"quietus/mem"
	"quietus/text"
	"quietus/thread"
)

func setup(threads int) api.Setup {
	return api.Setup{Shape: api.Shape{Words: 64, Stripes: 8, Wide: 1, Threads: threads, Start: 5}, Spins: 0, Writes: 40, Fuel: 100}
}

func progs(t *testing.T, l ...string) []api.Prog {
	t.Helper()
	var all []api.Prog
	for _, s := range l {
		p, line, col, err := text.Parse(strings.ReplaceAll(s, " / ", "\n"))
		if err != api.OK {
			t.Fatal(s, line, col, err)
		}
		all = append(all, p)
	}
	return all
}

// world is a thread on a memory, picked like a machine does it.
type world struct {
	t    *testing.T
	th   *thread.Thread
	m    *mem.Mem
	pick int
}

func begin(t *testing.T, me, threads int, jobs ...string) *world {
	t.Helper()
	w := &world{t: t, th: thread.New(me, setup(threads), progs(t, jobs...)), m: mem.New(setup(threads).Shape)}
	w.do(api.Op{Kind: api.StoreWord, At: api.Bump, Word: api.First})
	return w
}

func (w *world) do(o api.Op) {
	w.t.Helper()
	if a := w.m.Do(o); a.Err != api.OK {
		w.t.Fatal(o, a)
	}
}

func (w *world) lock(at int, l api.Lock) { w.do(api.Op{Kind: api.StoreLock, At: at, Lock: l}) }

func (w *world) epoch(i int, v uint64) { w.do(api.Op{Kind: api.StoreEpoch, At: i, Word: v}) }

const kinds = "?wWLCSTYeE"

// steps does n operations with a draw, and answers their kinds.
func (w *world) steps(n int, draw uint8) string {
	w.t.Helper()
	done := ""
	for range n {
		o, ok := w.th.Next()
		if !ok {
			return done + "."
		}
		w.pick++
		done += kinds[o.Kind : o.Kind+1]
		w.th.Tell(w.m.Do(o), draw, w.pick)
	}
	return done
}

// is asks the state, and that there is a Next just where there should be.
func (w *world) is(state int) {
	w.t.Helper()
	_, ok := w.th.Next()
	if w.th.State() != state || ok != (state == api.Running || state == api.Yielding || state == api.Looking) {
		w.t.Error("state", w.th.State(), "want", state)
	}
}

func (w *world) goes(kinds string, draw uint8, state int) {
	w.t.Helper()
	if got := w.steps(len(kinds), draw); got != kinds {
		w.t.Error(got, "want", kinds)
	}
	w.is(state)
}

// P27.1, the run of the chapter.
func TestTwoJobs(t *testing.T) {
	w := begin(t, 0, 1, "set r0 1 / emit r0", "set r0 1")
	w.goes("ETEEETEE", 0, api.Finished)
	if got := w.th.Results(); !slices.Equal(got, []api.Result{{Kind: api.Done, Slate: "1", Stamp: 5}, {Kind: api.Done, Stamp: 5}}) {
		t.Error(got)
	}
	w.th.Results()[0].Stamp = 99
	if w.th.Results()[0].Stamp != 5 {
		t.Error("shared")
	}
	w.th.Tell(api.Answer{}, 1, 1)
	w.th.Pause()
	w.th.Wake(0, 9)
	w.is(api.Finished)
}

// P27.1: how many jobs, and who it is.
func TestNew(t *testing.T) {
	w := begin(t, 0, 1)
	w.is(api.Finished)
	if len(w.th.Attempts()) != 0 || len(w.th.Results()) != 0 || len(w.th.Limbo()) != 0 || w.th.Writing() {
		t.Error("nothing was done")
	}
	w = begin(t, 0, 1, slices.Repeat([]string{"set r0 1"}, 8)...)
	w.goes(strings.Repeat("ETEE", api.MaxJobs), 0, api.Finished)
	if len(w.th.Results()) != api.MaxJobs {
		t.Error(w.th.Results())
	}
	for me, want := range map[int]int{-5: 0, 0: 0, 2: 2, 3: 2, 1 << 40: 2} {
		w = begin(t, me, 3, "set r0 1")
		if o, ok := w.th.Next(); !ok || o.At != want {
			t.Error(me, o)
		}
		w.goes("ETEE", 0, api.Finished)
		if w.th.Attempts()[0].Thread != want {
			t.Error(me, w.th.Attempts())
		}
	}
	l := progs(t, "set r0 1 / emit r0")
	th := thread.New(0, setup(1), l)
	l[0].L[0].N = 7
	w = &world{t: t, th: th, m: mem.New(setup(1).Shape)}
	w.goes("ETEE", 0, api.Finished)
	if th.Results()[0].Slate != "1" {
		t.Error("kept", th.Results())
	}
}

// P27.2: errors.
func TestErrs(t *testing.T) {
	w := begin(t, 0, 1, "fail", "open", "set r0 2 / alloc r0 r0 / free r0 / emit r0 / fail", "set r0 1")
	w.steps(100, 0)
	want := []api.Result{{Kind: api.Erred, Err: api.ErrUser, Stamp: 5}, {Kind: api.Erred, Err: api.ErrForm, Stamp: 5}, {Kind: api.Erred, Err: api.ErrUser, Stamp: 5}, {Kind: api.Done, Stamp: 5}}
	if got := w.th.Results(); !slices.Equal(got, want) || len(w.th.Limbo()) != 0 {
		t.Error(got, w.th.Limbo())
	}
	// An answer's error.
	w = begin(t, 0, 1, "set r0 1", "set r0 1")
	w.th.Tell(api.Answer{Err: api.ErrAddr}, 0, 3)
	w.is(api.Running)
	if got := w.th.Results(); !slices.Equal(got, []api.Result{{Kind: api.Erred, Err: api.ErrAddr}}) {
		t.Error(got)
	}
	if got := w.th.Attempts(); len(got) != 1 || got[0].Kind != api.Erred || got[0].Err != api.ErrAddr || got[0].Born != 0 || got[0].Ended != 3 {
		t.Error(got)
	}
}

// P27.2, P27.5: waiting, and waking.
func TestWaits(t *testing.T) {
	w := begin(t, 0, 2, "set r0 6 / load r1 r0 0 / zero r1 a / jump b / a: retry / b: emit r1")
	w.goes("ETELwLTLE", 0, api.Waiting)
	w.th.Tell(api.Answer{}, 0, 99)
	w.th.Pause()
	w.th.Wake(6, 0)
	w.th.Wake(5, 7)
	w.th.Wake(-1, 7)
	w.is(api.Waiting)
	if len(w.th.Results()) != 0 {
		t.Error("it isn't over")
	}
	w.th.Wake(6, 7)
	w.goes("ETELwL", 0, api.Running)
	// A wake while its attempt isn't Blocking does nothing; while it is, it is alarmed.
	w = begin(t, 0, 2, "set r0 6 / load r1 r0 0 / zero r1 a / jump b / a: retry / b: emit r1")
	w.goes("ETELw", 0, api.Running)
	w.th.Wake(6, 7)
	w.goes("LTL", 0, api.Running)
	w.th.Wake(6, 0)
	w.th.Wake(3, 7)
	w.goes("E", 0, api.Waiting)
	w.th.Wake(6, 7)
	w.goes("ETELwLTL", 0, api.Running)
	w.th.Wake(6, 7)
	w.goes("E", 0, api.Running)
	w.goes("ETELwLTLE", 0, api.Waiting)
	got := w.th.Attempts()
	if len(got) != 3 {
		t.Fatal(got)
	}
	for i, x := range got {
		if x.Kind != api.Blocked || x.Try != i || x.Job != 0 {
			t.Error(i, x)
		}
	}
	w.do(api.Op{Kind: api.StoreWord, At: 6, Word: 3})
	w.th.Wake(6, 8)
	w.goes("ETELwLE", 0, api.Finished)
	if got := w.th.Results(); !slices.Equal(got, []api.Result{{Kind: api.Done, Slate: "3", Stamp: 5}}) {
		t.Error(got)
	}
}

// P27.5: a wake ahead of Blocking isn't an alarm.
func TestWakesTooEarly(t *testing.T) {
	w := begin(t, 0, 2, "set r0 6 / load r1 r0 0 / load r1 r0 1 / retry")
	w.goes("ETELwLL", 0, api.Running)
	w.th.Wake(6, 7)
	w.goes("wLTLL", 0, api.Running)
	w.goes("E", 0, api.Waiting)
}

// P27.2, P27.3: yielding to the one whose lock it was.
func TestYields(t *testing.T) {
	job := "set r0 6 / load r1 r0 0"
	held := api.Lock{Held: true, Owner: 0}
	for _, c := range []struct {
		epochs []uint64
		kinds  string
	}{
		{[]uint64{0}, "e"}, {[]uint64{7, 7, 7, 0}, "eeee"}, {[]uint64{7, 7, 8}, "eee"}, {[]uint64{7, 6}, "ee"},
	} {
		w := begin(t, 1, 2, job)
		w.lock(6, held)
		w.goes("ETELE", 0, api.Yielding)
		for i, v := range c.epochs {
			w.is(api.Yielding)
			w.th.Pause()
			w.th.Wake(6, 9)
			w.epoch(0, v)
			if o, _ := w.th.Next(); o != (api.Op{Kind: api.LoadEpoch, At: 0}) {
				t.Error(o)
			}
			w.steps(1, 4)
			if i < len(c.epochs)-1 {
				w.is(api.Yielding)
			}
		}
		// 4 modulo 2 and 1.
		w.is(api.Pausing)
		w.th.Pause()
		w.lock(6, api.Lock{})
		w.goes("ETELwLE", 0, api.Finished)
	}
	// An error ends it.
	w := begin(t, 1, 2, job)
	w.lock(6, held)
	w.goes("ETELE", 0, api.Yielding)
	w.th.Tell(api.Answer{Err: api.ErrAddr, Word: 4}, 0, 9)
	w.is(api.Running)
	// Without a thread that is there it pauses at once.
	w = begin(t, 0, 2, job)
	w.goes("ETE", 0, api.Running)
	w.th.Tell(api.Answer{Lock: api.Lock{Held: true, Owner: -1}}, 0, 9)
	w.goes("E", 5, api.Pausing)
	w = begin(t, 1, 2, job)
	w.goes("ETE", 0, api.Running)
	w.th.Tell(api.Answer{Lock: api.Lock{Held: true, Owner: -9}}, 0, 9)
	w.goes("E", 5, api.Pausing)
}

// P27.3: how long it pauses.
func TestPauses(t *testing.T) {
	for _, draws := range [][]uint8{{1, 2, 3, 4, 5}, {5, 5, 5, 8, 8}, {255, 254, 253, 252, 251}, {2, 4, 8, 17, 9}} {
		w := begin(t, 1, 2, "set r0 6 / load r1 r0 0 / retry", "set r0 6 / load r1 r0 0")
		for n, draw := range draws {
			m := min(1<<(n+1), api.MaxPause)
			// What was read doesn't stand any more, by nobody's lock.
			w.goes("ETELwLT", 0, api.Running)
			w.th.Tell(api.Answer{Lock: api.Lock{Version: 99}}, 0, 1)
			w.th.Wake(6, 4)
			w.steps(1, draw)
			for range int(draw) % (m + 1) {
				w.is(api.Pausing)
				w.th.Tell(api.Answer{}, 0, 1)
				w.th.Wake(6, 9)
				w.th.Pause()
			}
			w.is(api.Running)
		}
	}
}

// P27.4: blocks that rest, and the sweep that gives them back.
func TestSweeps(t *testing.T) {
	job := "set r0 2 / alloc r0 r0 / free r0"
	w := begin(t, 1, 3, job, "set r0 1")
	w.goes("ETELwLLwL", 0, api.Running)
	for w.th.State() == api.Running {
		w.steps(1, 0)
	}
	w.is(api.Looking)
	rests := []api.Rest{{At: 15, Stamp: 6}}
	if !slices.Equal(w.th.Limbo(), rests) || len(w.th.Results()) != 1 {
		t.Error(w.th.Limbo())
	}
	// Somebody may still have it: it goes on with its next job.
	w.epoch(2, 6)
	for i, at := range []int{0, 2} {
		w.is(api.Looking)
		if o, _ := w.th.Next(); o != (api.Op{Kind: api.LoadEpoch, At: at}) {
			t.Error(i, o)
		}
		w.steps(1, 0)
	}
	w.is(api.Running)
	w.goes("ETEE", 0, api.Looking)
	if !slices.Equal(w.th.Limbo(), rests) {
		t.Error(w.th.Limbo())
	}
	// Nobody can: a sweep.
	w.epoch(2, 7)
	w.goes("ee", 0, api.Running)
	if !slices.Equal(w.th.Limbo(), rests) {
		t.Error(w.th.Limbo())
	}
	for w.th.State() == api.Running {
		if !slices.Equal(w.th.Limbo(), rests) {
			t.Error(w.th.Limbo())
		}
		w.steps(1, 0)
	}
	w.is(api.Finished)
	if len(w.th.Limbo()) != 0 || len(w.th.Results()) != 2 || w.m.Words()[api.Heads] != 15 {
		t.Error(w.th.Limbo(), w.m.Words())
	}
	got := w.th.Attempts()
	got[0].Frees[0] = 99
	if again := w.th.Attempts(); again[0].Frees[0] != 15 {
		t.Error("shared")
	}
	if len(got) != 3 || !got[2].Sweep || got[2].Job != 1 || got[2].Try != 0 || !slices.Equal(got[2].Frees, []int{15}) || got[2].Slate != "" || got[0].Sweep {
		t.Error(got)
	}
}

// untilSweep goes on to a sweep's first operation, of one thread of two.
func untilSweep(t *testing.T) *world {
	w := begin(t, 1, 2, "set r0 2 / alloc r1 r0 / alloc r2 r0 / free r2 / free r1", "set r0 1 / emit r0")
	for w.th.State() == api.Running {
		w.steps(1, 0)
	}
	w.goes("e", 0, api.Running)
	return w
}

// P27.4: a sweep that meets conflicts is tried again, and one that errs lets its blocks rest.
func TestSweepAgain(t *testing.T) {
	w := untilSweep(t)
	rests := []api.Rest{{At: 18, Stamp: 6}, {At: 15, Stamp: 6}}
	w.lock(1, api.Lock{Version: 6, Held: true, Owner: 0})
	w.goes("ETE", 0, api.Running)
	w.goes("LE", 0, api.Yielding)
	if !slices.Equal(w.th.Limbo(), rests) {
		t.Error(w.th.Limbo())
	}
	w.goes("e", 2, api.Pausing)
	if !slices.Equal(w.th.Limbo(), rests) {
		t.Error(w.th.Limbo())
	}
	w.th.Pause()
	w.th.Pause()
	w.is(api.Running)
	w.goes("ETE", 0, api.Running)
	got := w.th.Attempts()
	if len(got) != 3 || got[1].Kind != api.Conflict || !got[1].Sweep || got[1].Try != 0 || !got[2].Sweep || got[2].Try != 1 || got[2].Kind != api.Going || got[2].Job != 0 {
		t.Error(got)
	}
	w.th.Tell(api.Answer{Err: api.ErrUser}, 0, 9)
	w.is(api.Running)
	if !slices.Equal(w.th.Limbo(), rests) || len(w.th.Results()) != 1 {
		t.Error(w.th.Limbo(), w.th.Results())
	}
	// The next job; behind it they are looked at again.
	w.lock(1, api.Lock{Version: 6})
	w.goes("ETEE", 0, api.Looking)
	w.goes("e", 0, api.Running)
	got = w.th.Attempts()
	if last := got[len(got)-1]; last.Sweep || last.Job != 1 || last.Try != 0 {
		t.Error(last)
	}
	for w.th.State() == api.Running {
		w.steps(1, 0)
	}
	w.is(api.Finished)
	if len(w.th.Limbo()) != 0 || w.m.Words()[api.Heads] != 15 || w.m.Words()[15] != 18 {
		t.Error(w.th.Limbo(), w.m.Words())
	}
}

// P27.3: conflicts are counted for each job and each sweep on their own.
func TestConflictsAnew(t *testing.T) {
	w := untilSweep(t)
	for _, m := range []int{2, 4, 8, 8} {
		w.goes("ETE", 0, api.Running)
		w.th.Tell(api.Answer{Lock: api.Lock{Version: 6, Held: true, Owner: 0}}, 0, 1)
		w.goes("E", 0, api.Yielding)
		w.th.Tell(api.Answer{}, uint8(m), 1)
		for range m {
			w.is(api.Pausing)
			w.th.Pause()
		}
		w.is(api.Running)
	}
	w.th.Tell(api.Answer{Err: api.ErrUser}, 0, 9)
	w.goes("ET", 0, api.Running)
	if last := w.th.Attempts()[len(w.th.Attempts())-1]; last.Sweep || last.Try != 0 {
		t.Error(last)
	}
}

// P27.4: an error while Looking counts as 0; one thread alone looks at nobody.
func TestLooks(t *testing.T) {
	w := begin(t, 0, 3, "set r0 2 / alloc r0 r0 / free r0")
	for w.th.State() == api.Running {
		w.steps(1, 0)
	}
	w.is(api.Looking)
	w.th.Tell(api.Answer{Err: api.ErrAddr, Word: 1}, 0, 1)
	w.th.Tell(api.Answer{Word: 7}, 0, 1)
	w.is(api.Running)
	w = begin(t, 0, 1, "set r0 2 / alloc r0 r0 / free r0")
	w.steps(1000, 0)
	w.is(api.Finished)
	if got := w.th.Attempts(); len(got) != 2 || !got[1].Sweep || w.m.Words()[api.Heads] != 15 {
		t.Error(got)
	}
}

// P27.6: what is told of attempts.
func TestAttempts(t *testing.T) {
	w := begin(t, 0, 1, "set r0 6 / load r1 r0 0 / store r0 r0 1 / emit r0", "set r0 1")
	want := api.Attempt{Kind: api.Going, Begin: 5, Stamp: 5, Born: 2, Reads: []api.Cell{}, Cells: []api.Cell{}, Frees: []int{}}
	for i, kind := range "ETELwLLCTYWSE" {
		got := w.th.Attempts()
		if i < 2 {
			if len(got) != 0 {
				t.Error(i, got)
			}
		} else {
			if i == 6 {
				want.Reads = []api.Cell{{At: 6}}
			}
			if i == 10 {
				want.Kind, want.Stamp, want.Cells, want.Slate = api.Done, 6, []api.Cell{{At: 7, Word: 6}}, "6"
			}
			if len(got) != 1 || !same(got[0], want) || w.th.Writing() != (i >= 10) {
				t.Error(i, got, w.th.Writing())
			}
		}
		w.goes(string(kind), 0, api.Running)
	}
	want.Ended = 13
	got := w.th.Attempts()
	if len(got) != 1 || !same(got[0], want) || w.th.Writing() {
		t.Error(got)
	}
	got[0].Cells[0].Word, got[0].Reads[0].Word = 99, 99
	if again := w.th.Attempts(); !same(again[0], want) {
		t.Error("shared", again)
	}
	w.goes("ET", 0, api.Running)
	if got := w.th.Attempts(); len(got) != 2 || got[1].Job != 1 || got[1].Born != 15 || got[1].Ended != 0 {
		t.Error(got)
	}
}

// same tells whether two are the same, nil lists and empty ones too.
func same(a, b api.Attempt) bool {
	if !slices.Equal(a.Reads, b.Reads) || !slices.Equal(a.Cells, b.Cells) || !slices.Equal(a.Frees, b.Frees) {
		return false
	}
	a.Reads, a.Cells, a.Frees = b.Reads, b.Cells, b.Frees
	return reflect.DeepEqual(a, b)
}
