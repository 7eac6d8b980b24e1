// Package whole holds tests of the promises of the whole, T1 to T6: programs
// and picks drawn by a fixed rule, held against the model at every turn.
package whole

import (
	"fmt"
	"slices"
	"strings"
	"testing"

	"quietus/api"
	"quietus/arena"
	"quietus/history"
	"quietus/judge"
	"quietus/machine"
	"quietus/model"
	"quietus/text"
)

type chance uint64

func (c *chance) draw(n int) int {
	*c = *c*6364136223846793005 + 1442695040888963407
	return int(*c>>33) % n
}

// writer writes a program that loads and stores at roots and in live blocks alone.
type writer struct {
	*chance
	lines  []string
	labels int
}

func (w *writer) add(format string, a ...any) { w.lines = append(w.lines, fmt.Sprintf(format, a...)) }

func (w *writer) label() string {
	w.labels++
	return fmt.Sprintf("a%d", w.labels)
}

// Roots 6 to 9 are a list, a table, a queue, a tree; 10, 11 are counters; 12, 13
// name a block, or are 0.
var calls = [][]string{
	{"list.add", "list.cut", "list.has"},
	{"table.put", "table.get", "table.del"},
	{"queue.push", "queue.push", "queue.take"},
	{"tree.set", "tree.find", "tree.erase", "tree.count"},
}

func (w *writer) call() {
	root := w.draw(4)
	names := calls[root]
	w.add("set r2 %d", w.draw(9))
	w.add("set r3 %d", w.draw(9))
	w.add("call %s %d r2", names[w.draw(len(names))], root)
}

func (w *writer) count() {
	at := 10 + w.draw(2)
	w.add("set r0 %d", at)
	w.add("load r1 r0 0")
	if w.draw(2) == 0 {
		w.add("emit r1")
	}
	if w.draw(3) > 0 {
		w.add("set r4 1")
		w.add("add r1 r1 r4")
		w.add("store r0 r1 0")
	}
}

// block takes a block and hangs it up, or takes the one that hangs down and frees it.
func (w *writer) block() {
	empty, end := w.label(), w.label()
	w.add("set r0 %d", 12+w.draw(2))
	w.add("load r1 r0 0")
	w.add("zero r1 %s", empty)
	w.add("load r4 r1 1")
	w.add("emit r4")
	if w.draw(2) == 0 {
		w.add("free r1")
		w.add("store r0 r7 0")
	}
	w.add("jump %s", end)
	w.add("%s: set r4 %d", empty, 2+w.draw(5))
	w.add("alloc r1 r4")
	w.add("store r1 r4 1")
	w.add("store r0 r1 0")
	w.add("%s: move r6 r6", end)
}

func (w *writer) wait() {
	end := w.label()
	w.add("set r0 %d", 10+w.draw(2))
	w.add("load r1 r0 0")
	w.add("set r4 %d", w.draw(3))
	w.add("less r4 r1 r4")
	w.add("zero r4 %s", end)
	w.add("retry")
	w.add("%s: move r6 r6", end)
}

func (w *writer) part(deep int) {
	switch n := w.draw(14); {
	case n < 5:
		w.call()
	case n < 7:
		w.count()
	case n < 9:
		w.block()
	case n < 10:
		w.wait()
	case deep > 2:
		w.call()
	case n < 12:
		w.add("open")
		w.part(deep + 1)
		if w.draw(2) == 0 {
			w.add("undo")
		}
		w.add("close")
	default:
		w.add("either")
		w.part(deep + 1)
		if w.draw(3) == 0 {
			w.add("retry")
		}
		w.add("or")
		w.part(deep + 1)
		w.add("done")
	}
}

func (c *chance) prog(t *testing.T) api.Prog {
	t.Helper()
	for {
		w := &writer{chance: c}
		for range 1 + c.draw(3) {
			w.part(0)
		}
		if c.draw(30) == 0 {
			w.add("fail")
		}
		p, line, col, err := text.Parse(strings.Join(w.lines, "\n"))
		if err == api.ErrFull {
			continue
		}
		if err != api.OK {
			t.Fatal(strings.Join(w.lines, "\n"), line, col, err)
		}
		return p
	}
}

func (c *chance) setup() api.Setup {
	s := api.Setup{Spins: c.draw(3), Writes: 40 + c.draw(57), Fuel: 60 + c.draw(340)}
	s.Shape = api.Shape{Words: 100 + c.draw(157), Stripes: 1 + c.draw(16), Wide: 1 + c.draw(4), Start: uint64(c.draw(50))}
	if c.draw(12) == 0 {
		s.Shape.Start = api.MaxClock - 2 - uint64(c.draw(6))
	}
	if c.draw(12) == 0 {
		s.Shape.Words = 32 + c.draw(40)
	}
	return s
}

// run is a machine, and what it was at the beginning.
type run struct {
	t     *testing.T
	m     *machine.Machine
	jobs  [][]api.Prog
	words []uint64
}

func begin(t *testing.T, c *chance) *run {
	t.Helper()
	r := &run{t: t}
	for range 1 + c.draw(4) {
		var row []api.Prog
		for range 1 + c.draw(3) {
			row = append(row, c.prog(t))
		}
		r.jobs = append(r.jobs, row)
	}
	r.m = machine.New(c.setup(), r.jobs)
	r.words = r.m.Words()
	return r
}

// pick is one pick, which T4 asks to keep off the words of free blocks.
func (r *run) pick(i int, draw uint8) {
	r.t.Helper()
	// Behind what is committed ahead of it, what is writing back among it.
	words := judge.After(r.words, r.m.Attempts())
	r.m.Pick(i, draw)
	if o, ok := r.m.Last(); ok && !judge.Safe(words, o) {
		r.t.Fatal("T4: a word of a free block", o)
	}
}

// holds asks T1, T2 and T4 of where the machine is.
func (r *run) holds() {
	r.t.Helper()
	l := r.m.Attempts()
	if !history.Keeps(l) {
		r.t.Fatal("T1: the order doesn't keep", l)
	}
	if !history.True(r.words, l) {
		r.t.Fatal("T1: what was read isn't so", l)
	}
	if !judge.Serial(r.words, r.m.Setup(), r.jobs, l) {
		r.t.Fatal("T2: not as one by one", l)
	}
	if r.m.Writing() {
		return
	}
	if !slices.Equal(judge.After(r.words, l), r.m.Words()) {
		r.t.Fatal("T2: not the same heap", l)
	}
	var rests [][]api.Rest
	for i := range r.m.Threads() {
		rests = append(rests, r.m.Limbo(i))
	}
	if !judge.Parts(r.m.Words(), rests) {
		r.t.Fatal("T4: the arena isn't parted", r.m.Words(), rests)
	}
}

// rest asks T6 of a machine that Rests: who waits would wait by the model, too.
func (r *run) rest() {
	r.t.Helper()
	for i := range r.m.Threads() {
		done := len(r.m.Results(i))
		if r.m.State(i) == api.Finished {
			if done != len(r.jobs[i]) {
				r.t.Fatal("results lack", i, done)
			}
			continue
		}
		s := r.m.Setup()
		if o := model.Run(r.m.Words(), r.jobs[i][done], s.Fuel, s.Writes); o.Kind != api.Blocked {
			r.t.Fatal("T6: it waits in vain", i, o)
		}
	}
	for _, l := range r.m.Locks() {
		if l.Held {
			r.t.Fatal("a lock is held", r.m.Locks())
		}
	}
	if !slices.Equal(r.m.Slots(), make([]uint64, r.m.Threads())) {
		r.t.Fatal("epochs", r.m.Slots())
	}
}

// Short bursts, long ones, rounds, and one thread that is left behind.
func (r *run) drive(c *chance, every int) {
	r.t.Helper()
	burst := []int{1, 3, 12, 60}[c.draw(4)]
	slow := c.draw(2 * r.m.Threads())
	for turns := 0; !r.m.Rests(); turns++ {
		if turns > 100000 {
			r.t.Fatal("T6: nobody goes on")
		}
		i := c.draw(r.m.Threads())
		if i == slow && c.draw(20) > 0 {
			continue
		}
		for range 1 + c.draw(burst) {
			r.pick(i, uint8(c.draw(256)))
			if r.m.Picks()%every == 0 {
				r.holds()
			}
		}
	}
	r.holds()
	r.rest()
}

// T1 to T6, looked at behind every pick, and of more machines now and then.
func TestWhole(t *testing.T) {
	for seed := range 400 {
		c := chance(seed)
		every := 41
		if seed%20 == 0 {
			every = 1
		}
		begin(t, &c).drive(&c, every)
	}
}

// T5: programs that ask for anything.
func TestAnything(t *testing.T) {
	for seed := range 3000 {
		c := chance(seed)
		r := &run{t: t}
		for range 1 + c.draw(3) {
			var p api.Prog
			for range 1 + c.draw(12) {
				p.L = append(p.L, c.anything())
			}
			r.jobs = append(r.jobs, []api.Prog{p})
		}
		s := c.setup()
		s.Shape.Words = c.draw(100)
		s.Fuel = c.draw(80)
		s.Writes = c.draw(40)
		r.m = machine.New(s, r.jobs)
		r.words = r.m.Words()
		for turns := 0; !r.m.Rests(); turns++ {
			if turns > 100000 {
				t.Fatal("no end")
			}
			r.m.Pick(c.draw(r.m.Threads()), uint8(c.draw(256)))
		}
		l := r.m.Attempts()
		if !history.Keeps(l) || !history.True(r.words, l) || !judge.Serial(r.words, r.m.Setup(), r.jobs, l) || !slices.Equal(judge.After(r.words, l), r.m.Words()) {
			t.Fatal(seed, l)
		}
		r.rest()
	}
}

func (c *chance) anything() api.Ins {
	ins := api.Ins{Op: 1 + c.draw(23), A: c.draw(8), B: c.draw(8), C: c.draw(7)}
	switch ins.Op {
	case api.ISet:
		ins.B, ins.C = 0, 0
		ins.N = []uint64{0, 1, 2, 6, 7, 9, 14, 15, 20, 31, 40, 1 << 31, 1<<64 - 1, uint64(*c)}[c.draw(14)]
	case api.IMove, api.IAlloc:
		ins.C = 0
	case api.IFree, api.IEmit:
		ins.B, ins.C = 0, 0
	case api.IJump:
		ins.A, ins.B = 0, 0
	case api.IZero:
		ins.B = 0
	case api.ICall:
		ins.A = 1 + c.draw(12)
	}
	if ins.Op >= api.IOpen && ins.Op <= api.IRetry || ins.Op == api.IFail {
		ins = api.Ins{Op: api.ISet, A: ins.A, N: uint64(ins.B) * 3}
		if c.draw(6) == 0 {
			ins = api.Ins{Op: api.IRetry}
		}
	}
	return ins
}

// T2, the third example of the whole: one that reads two words never has one
// old and one new, whoever is picked when.
func TestTwoWords(t *testing.T) {
	both := parse(t, "set r0 10\nload r1 r0 0\nset r2 1\nadd r1 r1 r2\nstore r0 r1 0\nstore r0 r1 1")
	reads := parse(t, "set r0 10\nload r1 r0 0\nload r2 r0 1\nemit r1\nemit r2")
	for first := range 40 {
		for second := range 40 {
			m := machine.New(api.Setup{Spins: 1, Writes: 9, Fuel: 99, Shape: api.Shape{Words: 40, Stripes: 16, Wide: 1}}, [][]api.Prog{{both, both}, {reads}})
			for range first {
				m.Pick(1, 0)
			}
			for range second {
				m.Pick(0, 0)
			}
			for !m.Rests() {
				m.Pick(1, 0)
				m.Pick(0, 0)
			}
			if s := m.Results(1)[0].Slate; s != "0 0" && s != "1 1" && s != "2 2" {
				t.Fatal(first, second, s)
			}
		}
	}
}

func parse(t *testing.T, s string) api.Prog {
	t.Helper()
	p, line, col, err := text.Parse(s)
	if err != api.OK {
		t.Fatal(s, line, col, err)
	}
	return p
}

// T3: what pushes put into a queue, takes take out once each, in order; who
// takes of an empty one waits.
func TestQueue(t *testing.T) {
	for seed := range 200 {
		c := chance(seed)
		var pushes, takes []api.Prog
		for i := range 5 {
			pushes = append(pushes, parse(t, fmt.Sprintf("set r1 %d\ncall queue.push 2 r1", i)))
			takes = append(takes, parse(t, "call queue.take 2 r1"))
		}
		m := machine.New(api.Setup{Spins: c.draw(3), Writes: 60, Fuel: 99, Shape: api.Shape{Words: 60, Stripes: 1 + c.draw(16), Wide: 1}}, [][]api.Prog{takes[:3], takes[:3], pushes})
		for !m.Rests() {
			m.Pick(c.draw(3), uint8(c.draw(256)))
		}
		var took []string
		waits := 0
		for i := range 2 {
			last := ""
			for _, x := range m.Results(i) {
				if x.Slate <= last {
					t.Fatal(seed, m.Results(i))
				}
				last = x.Slate
				took = append(took, x.Slate)
			}
			if m.State(i) == api.Waiting {
				waits++
			}
		}
		slices.Sort(took)
		if !slices.Equal(took, []string{"0", "1", "2", "3", "4"}) || waits != 1 {
			t.Fatal(seed, took, waits)
		}
		if blocks, err := arena.Blocks(m.Words()); err != api.OK || slices.ContainsFunc(blocks, func(b api.Block) bool { return b.Live }) {
			t.Fatal(seed, blocks, err)
		}
	}
}
