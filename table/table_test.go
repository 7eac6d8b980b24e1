package table_test

import (
	"slices"
	"testing"

	"quietus/api"
	"quietus/arena"
	"quietus/table"
	"quietus/view"
)

// P18.1, the run of the chapter. Folder objects tests what holds for all objects.
func TestRun(t *testing.T) {
	v := view.Whole(arena.Fresh(100), api.MaxWrites)
	for i, c := range []struct {
		k, x uint64
		want bool
	}{{9, 1, true}, {9, 2, false}, {0, 7, true}, {1<<64 - 1, 8, true}} {
		if got, err := table.Put(v, api.Roots, c.k, c.x); got != c.want || err != api.OK {
			t.Error(i, got, err)
		}
	}
	if x, ok, err := table.Get(v, api.Roots, 9); x != 2 || !ok || err != api.OK {
		t.Error(x, ok, err)
	}
	if x, ok, err := table.Get(v, api.Roots, 8); x != 0 || ok || err != api.OK {
		t.Error(x, ok, err)
	}
	if n, err := table.Len(v, api.Roots); n != 3 || err != api.OK {
		t.Error(n, err)
	}
	all, err := table.All(v, api.Roots)
	if err != api.OK || !slices.Equal(all, []api.Pair{{Key: 0, Val: 7}, {Key: 9, Val: 2}, {Key: 1<<64 - 1, Val: 8}}) {
		t.Error(all, err)
	}
	for i, want := range []bool{true, false} {
		if got, err := table.Del(v, api.Roots, 9); got != want || err != api.OK {
			t.Error(i, got, err)
		}
	}
	if n, _ := table.Len(v, api.Roots); n != 2 {
		t.Error(n)
	}
	if n, err := table.Len(v, api.Roots+1); n != 0 || err != api.OK {
		t.Error(n, err)
	}
}

// act calls on a heap, and leaves it as the call says, with freed blocks given back.
func act(t *testing.T, words []uint64, call func(v *view.View) (bool, api.Errno)) {
	t.Helper()
	v := view.Whole(words, api.MaxWrites)
	if ok, err := call(v); !ok || err != api.OK {
		t.Fatal(ok, err)
	}
	for _, b := range v.Frees() {
		if err := arena.Give(v, b); err != api.OK {
			t.Fatal(err)
		}
	}
	for _, c := range v.Cells() {
		words[c.At] = c.Word
	}
}

func live(t *testing.T, words []uint64) int {
	t.Helper()
	blocks, err := arena.Blocks(words)
	if err != api.OK {
		t.Fatal(err)
	}
	n := 0
	for _, b := range blocks {
		if b.Live {
			n++
		}
	}
	return n
}

// asked tells how many words a look-up asks for, and what it finds.
func asked(t *testing.T, words []uint64, k uint64) (int, uint64) {
	t.Helper()
	v := view.New(len(words), 0)
	for {
		x, ok, err := table.Get(v, api.Roots, k)
		if err == api.ErrNeed {
			v.Know(v.Need(), words[v.Need()])
			continue
		}
		if !ok || err != api.OK {
			t.Fatal(k, ok, err)
		}
		return len(v.Known()), x
	}
}

// P18.1, P17.1: more chains as it grows, and no block that isn't needed.
func TestGrows(t *testing.T) {
	for _, step := range []uint64{1, 14, 42, 1 << 40} {
		words := arena.Fresh(256)
		for k := range uint64(34) {
			act(t, words, func(v *view.View) (bool, api.Errno) { return table.Put(v, api.Roots, k*step, k) })
			if n := live(t, words); n != int(k)+2 {
				t.Error(step, k, n)
			}
		}
		for k := range uint64(34) {
			n, x := asked(t, words, k*step)
			if x != k || step == 1 && n > 11 {
				t.Error(step, k, x, n)
			}
		}
		if n, err := table.Len(view.Whole(words, 0), api.Roots); n != 34 || err != api.OK {
			t.Error(step, n, err)
		}
		for k := range uint64(34) {
			act(t, words, func(v *view.View) (bool, api.Errno) { return table.Del(v, api.Roots, k*step) })
		}
		if n := live(t, words); n != 0 || words[api.Roots] != 0 {
			t.Error(step, n)
		}
	}
}
