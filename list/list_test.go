package list_test

import (
	"slices"
	"testing"

	"quietus/api"
	"quietus/arena"
	"quietus/list"
	"quietus/view"
)

// P17.3, the run of the chapter. Folder objects tests what holds for all objects.
func TestRun(t *testing.T) {
	v := view.Whole(arena.Fresh(100), api.MaxWrites)
	for i, c := range []struct {
		call func(*view.View, int, uint64) (bool, api.Errno)
		k    uint64
		want bool
	}{
		{list.Add, 5, true}, {list.Add, 3, true}, {list.Add, 5, false}, {list.Has, 3, true}, {list.Has, 4, false},
		{list.Add, 1<<64 - 1, true}, {list.Add, 0, true}, {list.Cut, 4, false}, {list.Cut, 3, true}, {list.Cut, 3, false}, {list.Has, 3, false},
	} {
		if got, err := c.call(v, api.Roots, c.k); got != c.want || err != api.OK {
			t.Error(i, got, err)
		}
	}
	all, err := list.All(v, api.Roots)
	if err != api.OK || !slices.Equal(all, []uint64{0, 5, 1<<64 - 1}) {
		t.Error(all, err)
	}
	all[0] = 9
	if again, _ := list.All(v, api.Roots); again[0] != 0 {
		t.Error("shared")
	}
	if got, err := list.All(v, api.Roots+1); len(got) != 0 || err != api.OK {
		t.Error(got, err)
	}
}

// P17.1: blocks come of the arena, and are freed when they are needed no more.
func TestBlocks(t *testing.T) {
	v := view.Whole(arena.Fresh(100), api.MaxWrites)
	for k := range uint64(6) {
		list.Add(v, api.Roots, k)
	}
	for k := range uint64(6) {
		list.Cut(v, api.Roots, k)
	}
	if len(v.Frees()) != 6 {
		t.Error(v.Frees())
	}
	if x, _ := v.Read(api.Roots); x != 0 {
		t.Error(x)
	}
}
