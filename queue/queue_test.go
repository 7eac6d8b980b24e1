package queue_test

import (
	"slices"
	"testing"

	"quietus/api"
	"quietus/arena"
	"quietus/queue"
	"quietus/view"
)

// P19.1, the run of the chapter. Folder objects tests what holds for all objects.
func TestRun(t *testing.T) {
	v := view.Whole(arena.Fresh(100), api.MaxWrites)
	take := func(want uint64, there bool) {
		t.Helper()
		if x, ok, err := queue.Take(v, api.Roots); x != want || ok != there || err != api.OK {
			t.Error(x, ok, err)
		}
	}
	push := func(x uint64) {
		t.Helper()
		if err := queue.Push(v, api.Roots, x); err != api.OK {
			t.Error(err)
		}
	}
	take(0, false)
	push(5)
	push(3)
	push(5)
	if all, err := queue.All(v, api.Roots); err != api.OK || !slices.Equal(all, []uint64{5, 3, 5}) {
		t.Error(all, err)
	}
	take(5, true)
	take(3, true)
	push(0)
	take(5, true)
	take(0, true)
	take(0, false)
	if all, err := queue.All(v, api.Roots); err != api.OK || len(all) != 0 {
		t.Error(all, err)
	}
	if len(v.Frees()) != 4 {
		t.Error(v.Frees())
	}
	push(9)
	take(9, true)
}

// P19.1, P17.1: who takes of an empty queue reads its root alone, and writes nothing.
func TestEmpty(t *testing.T) {
	v := view.New(100, api.MaxWrites)
	if _, _, err := queue.Take(v, api.Roots+2); err != api.ErrNeed || v.Need() != api.Roots+2 {
		t.Error(err, v.Need())
	}
	v.Know(api.Roots+2, 0)
	if _, ok, err := queue.Take(v, api.Roots+2); ok || err != api.OK || len(v.Cells()) != 0 {
		t.Error(ok, err)
	}
}
