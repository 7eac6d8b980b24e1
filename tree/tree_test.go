package tree_test

import (
	"maps"
	"slices"
	"testing"

	"quietus/api"
	"quietus/arena"
	"quietus/tree"
	"quietus/view"
)

// do calls on a heap, and leaves it as the call says, with freed blocks given back.
func do(t *testing.T, words []uint64, call func(v *view.View) (bool, api.Errno)) bool {
	t.Helper()
	v := view.Whole(words, api.MaxWrites)
	ok, err := call(v)
	if err != api.OK {
		t.Fatal(err)
	}
	for _, b := range v.Frees() {
		if err := arena.Give(v, b); err != api.OK {
			t.Fatal(err)
		}
	}
	for _, c := range v.Cells() {
		words[c.At] = c.Word
	}
	return ok
}

func deep(t *testing.T, words []uint64, n int) int {
	t.Helper()
	d, err := tree.Deep(view.Whole(words, 0), api.Roots)
	if err != api.OK || 1<<d > (n+1)*(n+1) || d == 0 && n > 0 || 1<<d <= n {
		t.Fatal("deep", d, "of", n, err)
	}
	return d
}

// The run of the chapter, and P20.2 of keys that rise or fall.
func TestRows(t *testing.T) {
	for _, n := range []int{7, 40} {
		for _, down := range []bool{false, true} {
			words := arena.Fresh(256)
			deep(t, words, 0)
			for i := range n {
				k := uint64(i)
				if down {
					k = uint64(n - i)
				}
				if !do(t, words, func(v *view.View) (bool, api.Errno) { return tree.Put(v, api.Roots, k, k) }) {
					t.Error(k)
				}
				deep(t, words, i+1)
			}
			if n == 7 && deep(t, words, 7) > 6 {
				t.Error("the chapter's run")
			}
		}
	}
}

// P20.1, P20.2: puts and cuts in many orders.
func TestPutDel(t *testing.T) {
	for seed := range uint64(40) {
		draw := func(n uint64) uint64 {
			seed = seed*6364136223846793005 + 1442695040888963407
			return seed >> 33 % n
		}
		words, m := arena.Fresh(256), map[uint64]uint64{}
		for range 500 {
			k, x := draw(64), draw(9)
			_, there := m[k]
			if draw(100) < 50 && len(m) < 42 {
				m[k] = x
				if do(t, words, func(v *view.View) (bool, api.Errno) { return tree.Put(v, api.Roots, k, x) }) == there {
					t.Fatal("put", k)
				}
			} else {
				delete(m, k)
				if do(t, words, func(v *view.View) (bool, api.Errno) { return tree.Del(v, api.Roots, k) }) != there {
					t.Fatal("del", k)
				}
			}
			deep(t, words, len(m))
			lo, hi := draw(70), draw(70)
			var want []api.Pair
			for _, k := range slices.Sorted(maps.Keys(m)) {
				if k >= lo && k <= hi {
					want = append(want, api.Pair{Key: k, Val: m[k]})
				}
			}
			if got, err := tree.Range(view.Whole(words, 0), api.Roots, lo, hi); err != api.OK || !slices.Equal(got, want) {
				t.Fatal(lo, hi, got, want)
			}
			if x, ok, err := tree.Get(view.Whole(words, 0), api.Roots, k); x != m[k] || ok != (m[k] != 0 || slices.Contains(slices.Collect(maps.Keys(m)), k)) || err != api.OK {
				t.Fatal(k, x, ok, err)
			}
		}
	}
}

// P20.1: the ends of Range.
func TestRange(t *testing.T) {
	words := arena.Fresh(100)
	for _, k := range []uint64{0, 5, 1<<64 - 1} {
		do(t, words, func(v *view.View) (bool, api.Errno) { return tree.Put(v, api.Roots, k, k+1) })
	}
	for _, c := range []struct{ lo, hi, n uint64 }{{0, 1<<64 - 1, 3}, {0, 0, 1}, {5, 5, 1}, {1, 4, 0}, {6, 1<<64 - 2, 0}, {5, 4, 0}, {1<<64 - 1, 0, 0}, {1<<64 - 1, 1<<64 - 1, 1}} {
		if got, err := tree.Range(view.Whole(words, 0), api.Roots, c.lo, c.hi); uint64(len(got)) != c.n || err != api.OK {
			t.Error(c, got, err)
		}
	}
}
