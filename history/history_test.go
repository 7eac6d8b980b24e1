package history_test

import (
	"slices"
	"testing"

	"quietus/api"
	"quietus/history"
)

func cells(l ...uint64) []api.Cell {
	var all []api.Cell
	for i := 0; i+1 < len(l); i += 2 {
		all = append(all, api.Cell{At: int(l[i]), Word: l[i+1]})
	}
	return all
}

func done(stamp uint64, born int, c ...uint64) api.Attempt {
	return api.Attempt{Kind: api.Done, Stamp: stamp, Born: born, Cells: cells(c...)}
}

func reads(x api.Attempt, c ...uint64) api.Attempt {
	x.Reads = cells(c...)
	return x
}

func lives(x api.Attempt, born, ended int) api.Attempt {
	x.Born, x.Ended = born, ended
	return x
}

// P29.1: Less.
func TestLess(t *testing.T) {
	writes, reader := done(5, 9, 3, 1), done(5, 4)
	erred, going := writes, writes
	erred.Kind, going.Kind = api.Erred, api.Going
	for i, c := range []struct {
		a, b api.Attempt
		want bool
	}{
		{done(4, 9), done(5, 1), true}, {done(5, 1), done(4, 9), false}, {done(4, 9), done(5, 1, 3, 1), true},
		{done(1<<63, 1), done(1<<63+1, 1), true}, {done(1, 1), done(1<<64-1, 1), true},
		{writes, reader, true}, {reader, writes, false}, {writes, writes, false}, {reader, reader, false},
		{done(5, 1, 3, 1), done(5, 2, 3, 1), true}, {done(5, 2, 3, 1), done(5, 1, 3, 1), false},
		{done(5, 1), done(5, 2), true}, {done(5, 2), done(5, 1), false},
		{writes, erred, true}, {writes, going, true}, {erred, writes, false},
		{reader, erred, true}, {erred, going, false}, {lives(going, -1, 0), erred, true},
	} {
		if got := history.Less(c.a, c.b); got != c.want {
			t.Error(i, got)
		}
	}
}

// P29.1: Order, the run of the chapter.
func TestOrder(t *testing.T) {
	if got := history.Order([]api.Attempt{done(5, 3, 1, 1), done(5, 1), done(3, 2)}); !slices.Equal(got, []int{2, 0, 1}) {
		t.Error(got)
	}
	same := done(5, 1)
	if got := history.Order([]api.Attempt{same, done(5, 2), same, done(5, 0), same}); !slices.Equal(got, []int{3, 0, 2, 4, 1}) {
		t.Error(got)
	}
	if len(history.Order(nil)) != 0 {
		t.Error("none")
	}
	var l []api.Attempt
	for i := range 500 {
		l = append(l, done(uint64(i*7919%13), i*31%3, []uint64{1, 1}[:i%2*2]...))
	}
	got := history.Order(l)
	for k := 1; k < len(got); k++ {
		a, b := got[k-1], got[k]
		if history.Less(l[b], l[a]) || !history.Less(l[a], l[b]) && a > b {
			t.Fatal(k, a, b)
		}
	}
}

// P29.2: Keeps.
func TestKeeps(t *testing.T) {
	for i, c := range []struct {
		l    []api.Attempt
		want bool
	}{
		{nil, true},
		{[]api.Attempt{lives(done(5, 0), 1, 4), lives(done(6, 0), 5, 9)}, true},
		{[]api.Attempt{lives(done(6, 0), 1, 4), lives(done(5, 0), 5, 9)}, false},
		{[]api.Attempt{lives(done(5, 0), 5, 9), lives(done(6, 0), 1, 4)}, false},
		{[]api.Attempt{lives(done(6, 0), 1, 4), lives(done(5, 0), 4, 9)}, true},
		{[]api.Attempt{lives(done(6, 0), 1, 0), lives(done(5, 0), 5, 9)}, true},
		{[]api.Attempt{lives(done(6, 0), 1, -3), lives(done(5, 0), 5, 9)}, true},
		{[]api.Attempt{lives(done(6, 0), 1, 4), lives(done(5, 0), 0, 9)}, true},
		{[]api.Attempt{lives(done(6, 0), 9, 4), lives(done(7, 0), 9, 20)}, true},
		{[]api.Attempt{lives(done(6, 0), 9, 4)}, true},
		{[]api.Attempt{lives(done(7, 0), 1, 30), lives(done(6, 0), 2, 4), lives(done(5, 0), 3, 9), lives(done(4, 0), 5, 6)}, false},
		{[]api.Attempt{lives(done(7, 0), 1, 30), lives(done(6, 0), 2, 4), lives(done(5, 0), 3, 9), lives(done(4, 0), 4, 6)}, true},
		{[]api.Attempt{lives(done(6, 0), 1, 1), lives(done(5, 0), 2, 9)}, false},
		{[]api.Attempt{lives(done(6, 0), 1, 1), lives(done(7, 0), 1, 5), lives(done(5, 0), 2, 9)}, false},
		{[]api.Attempt{lives(done(6, 0), 1, 5), lives(done(7, 0), 1, 1), lives(done(5, 0), 2, 9)}, false},
		{[]api.Attempt{lives(done(6, 0), 1, 3), lives(done(7, 0), 1, 3), lives(done(5, 0), 3, 9)}, true},
		{[]api.Attempt{lives(done(5, 0), 8, 9), lives(done(5, 0, 3, 1), 1, 2)}, true},
		{[]api.Attempt{lives(done(5, 0, 3, 1), 8, 9), lives(done(5, 0), 1, 2)}, false},
	} {
		if got := history.Keeps(c.l); got != c.want {
			t.Error(i, got)
		}
	}
}

// P29.2: Heap.
func TestHeap(t *testing.T) {
	words := make([]uint64, 40)
	words[0], words[3] = 9, 8
	erred := done(2, 1, 3, 77)
	erred.Kind = api.Erred
	l := []api.Attempt{done(4, 1, 3, 4, 5, 4), erred, done(1, 1, 3, 1), done(3, 1, 3, 3, 6, 3, 99, 1)}
	for n, want := range map[int][3]uint64{-1: {8, 0, 0}, 0: {8, 0, 0}, 1: {1, 0, 0}, 2: {1, 0, 0}, 3: {3, 0, 3}, 4: {4, 4, 3}, 5: {4, 4, 3}, 1 << 40: {4, 4, 3}} {
		got := history.Heap(words, l, n)
		if len(got) != 40 || got[0] != 0 || [3]uint64{got[3], got[5], got[6]} != want {
			t.Error(n, got)
		}
	}
	if words[0] != 9 || words[3] != 8 || len(history.Heap(nil, nil, 3)) != api.MinWords || len(history.Heap(make([]uint64, 999), l, 3)) != api.MaxWords {
		t.Error("lengths")
	}
}

// P29.2: True.
func TestTrue(t *testing.T) {
	words := make([]uint64, 40)
	words[3] = 8
	lost := reads(done(2, 1, 3, 77), 3, 1)
	lost.Kind = api.Conflict
	for i, c := range []struct {
		l    []api.Attempt
		want bool
	}{
		{nil, true},
		{[]api.Attempt{reads(done(1, 1, 3, 1), 3, 8, 39, 0)}, true},
		{[]api.Attempt{reads(done(1, 1, 3, 1), 1, 0)}, true},
		{[]api.Attempt{reads(done(1, 1, 3, 1), 3, 1)}, false},
		{[]api.Attempt{reads(done(1, 1), 0, 0)}, false},
		{[]api.Attempt{reads(done(1, 1), 40, 0)}, false},
		{[]api.Attempt{{Stamp: 1, Reads: []api.Cell{{At: -1}}}}, false},
		{[]api.Attempt{{Stamp: 1, Reads: []api.Cell{{At: 1 << 40}}}}, false},
		{[]api.Attempt{done(1, 1, 3, 1), lost, reads(done(3, 1, 4, 1), 3, 1, 4, 0), reads(done(3, 1), 3, 1, 4, 1)}, true},
		{[]api.Attempt{reads(done(3, 1), 3, 1, 4, 1), lost, reads(done(3, 1, 4, 1), 3, 1, 4, 0), done(1, 1, 3, 1)}, true},
		{[]api.Attempt{reads(done(3, 1), 3, 1, 4, 0), lost, reads(done(3, 1, 4, 1), 3, 1, 4, 0), done(1, 1, 3, 1)}, false},
		{[]api.Attempt{done(1, 1, 3, 1), lost, reads(done(3, 1), 3, 77)}, false},
		{[]api.Attempt{lost}, false},
	} {
		if got := history.True(words, c.l); got != c.want {
			t.Error(i, got)
		}
	}
	if !history.True(nil, []api.Attempt{reads(done(1, 1), 31, 0)}) || history.True(nil, []api.Attempt{reads(done(1, 1), 32, 0)}) {
		t.Error("of no words")
	}
}
