package table_test

import (
	"slices"
	"testing"

	"quietus/api"
	"quietus/arena"
	"quietus/table"
	"quietus/view"
)

// P18.1, the run of the chapter. Folder objects tests what holds for all objects.
func TestRun(t *testing.T) {
	v := view.Whole(arena.Fresh(100), api.MaxWrites)
	for i, c := range []struct {
		k, x uint64
		want bool
	}{{9, 1, true}, {9, 2, false}, {0, 7, true}, {1<<64 - 1, 8, true}} {
		if got, err := table.Put(v, api.Roots, c.k, c.x); got != c.want || err != api.OK {
			t.Error(i, got, err)
		}
	}
	if x, ok, err := table.Get(v, api.Roots, 9); x != 2 || !ok || err != api.OK {
		t.Error(x, ok, err)
	}
	if x, ok, err := table.Get(v, api.Roots, 8); x != 0 || ok || err != api.OK {
		t.Error(x, ok, err)
	}
	if n, err := table.Len(v, api.Roots); n != 3 || err != api.OK {
		t.Error(n, err)
	}
	all, err := table.All(v, api.Roots)
	if err != api.OK || !slices.Equal(all, []api.Pair{{Key: 0, Val: 7}, {Key: 9, Val: 2}, {Key: 1<<64 - 1, Val: 8}}) {
		t.Error(all, err)
	}
	for i, want := range []bool{true, false} {
		if got, err := table.Del(v, api.Roots, 9); got != want || err != api.OK {
			t.Error(i, got, err)
		}
	}
	if n, _ := table.Len(v, api.Roots); n != 2 {
		t.Error(n)
	}
	if n, err := table.Len(v, api.Roots+1); n != 0 || err != api.OK {
		t.Error(n, err)
	}
}

// P18.1: keys of one chain, and more chains as it grows.
func TestGrows(t *testing.T) {
	for _, step := range []uint64{1, 14, 42, 1 << 40} {
		words := arena.Fresh(256)
		for k := range uint64(34) {
			v := view.Whole(words, api.MaxWrites)
			if got, err := table.Put(v, api.Roots, k*step, k); !got || err != api.OK {
				t.Fatal(step, k, got, err)
			}
			frees := v.Frees()
			for _, b := range frees {
				if err := arena.Give(v, b); err != api.OK {
					t.Fatal(err)
				}
			}
			for _, c := range v.Cells() {
				words[c.At] = c.Word
			}
		}
		v := view.Whole(words, api.MaxWrites)
		for k := range uint64(34) {
			if x, ok, err := table.Get(v, api.Roots, k*step); x != k || !ok || err != api.OK {
				t.Error(step, k, x, ok, err)
			}
		}
		if n, err := table.Len(v, api.Roots); n != 34 || err != api.OK {
			t.Error(step, n, err)
		}
	}
}
