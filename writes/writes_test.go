package writes_test

import (
	"slices"
	"testing"

	"quietus/api"
	"quietus/writes"
)

// P8.1: Put in its order of refusals, Get.
func TestPut(t *testing.T) {
	w := writes.New(2)
	for i, c := range []struct {
		at   int
		v    uint64
		want api.Errno
	}{
		{9, 1, api.OK}, {255, 2, api.OK}, {9, 3, api.OK}, {4, 1, api.ErrLog}, {255, 7, api.OK},
		{0, 1, api.ErrAddr}, {-1, 1, api.ErrAddr}, {256, 1, api.ErrAddr}, {1 << 40, 1, api.ErrAddr},
	} {
		if got := w.Put(c.at, c.v); got != c.want {
			t.Error(i, got)
		}
	}
	if !slices.Equal(w.All(), []api.Cell{{At: 9, Word: 3}, {At: 255, Word: 7}}) || w.Len() != 2 {
		t.Error(w.All(), w.Len())
	}
	w.All()[0].Word = 8
	if v, ok := w.Get(9); v != 3 || !ok {
		t.Error(v, ok)
	}
	for _, at := range []int{4, 0, -1, 999} {
		if v, ok := w.Get(at); v != 0 || ok {
			t.Error(at, v, ok)
		}
	}
}

// P8.1: room is brought to 0..MaxWrites.
func TestRoom(t *testing.T) {
	for most, want := range map[int]int{-1: 0, 0: 0, 1: 1, 96: 96, 97: 96, 1 << 40: 96} {
		w := writes.New(most)
		for at := 1; at < api.MaxWords; at++ {
			w.Put(at, 1)
		}
		if w.Len() != want {
			t.Error(most, w.Len())
		}
	}
}

// P8.1: the least and the greatest place.
func TestEnds(t *testing.T) {
	w := writes.New(5)
	if w.Put(1, 7) != api.OK || w.Put(api.MaxWords-1, 8) != api.OK {
		t.Error("places")
	}
	if v, ok := w.Get(1); v != 7 || !ok {
		t.Error(v, ok)
	}
}

// P8.1: Take, whole or not at all.
func TestTake(t *testing.T) {
	w := writes.New(3)
	w.Put(5, 1)
	before := w.All()
	for i, c := range []struct {
		l    []api.Cell
		want api.Errno
	}{
		{[]api.Cell{{At: 5, Word: 9}, {At: 6}, {At: 0}}, api.ErrAddr},
		{[]api.Cell{{At: 5, Word: 9}, {At: 6}, {At: 7}, {At: 8}, {At: 0}}, api.ErrLog},
		{[]api.Cell{{At: 6}, {At: 7}, {At: 256}, {At: 8}}, api.ErrAddr},
	} {
		if got := w.Take(c.l); got != c.want || !slices.Equal(w.All(), before) {
			t.Error(i, got, w.All())
		}
	}
	l := append(make([]api.Cell, 0, 9), api.Cell{At: 6, Word: 2}, api.Cell{At: 5, Word: 3}, api.Cell{At: 6, Word: 4}, api.Cell{At: 2, Word: 1})
	if err := w.Take(l); err != api.OK {
		t.Error(err)
	}
	l[0].Word = 77
	if !slices.Equal(w.All(), []api.Cell{{At: 5, Word: 3}, {At: 6, Word: 4}, {At: 2, Word: 1}}) {
		t.Error(w.All())
	}
	if w.Take(nil) != api.OK || w.Len() != 3 {
		t.Error("nothing is taken")
	}
}

// P8.2: Stripes.
func TestStripes(t *testing.T) {
	l := []api.Cell{{At: 9}, {At: 2}, {At: -1}, {At: 3}, {At: 0}, {At: 1000}}
	for _, c := range []struct {
		n, wide int
		want    []int
	}{{4, 2, []int{0, 1}}, {16, 1, []int{0, 2, 3, 8, 9}}, {0, 0, []int{0}}, {99, 99, []int{0, 14}}, {3, 1, []int{0, 1, 2}}} {
		if got := writes.Stripes(l, c.n, c.wide); !slices.Equal(got, c.want) {
			t.Error(c, got)
		}
	}
	if len(writes.Stripes(nil, 4, 2)) != 0 || len(writes.Stripes([]api.Cell{{At: -5}}, 4, 2)) != 0 {
		t.Error("no stripes")
	}
}
