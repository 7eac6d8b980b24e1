package levels_test

import (
	"slices"
	"testing"

	"quietus/api"
	"quietus/levels"
)

// P9.1: Open, Keep, Drop, Depth.
func TestDepth(t *testing.T) {
	l := levels.New(9)
	if l.Depth() != 1 || l.Keep() != api.ErrNone || l.Drop() != api.ErrNone || l.Depth() != 1 {
		t.Error("one level alone")
	}
	for i := 2; i <= api.MaxLevels; i++ {
		if err := l.Open(); err != api.OK || l.Depth() != i {
			t.Error(i, err, l.Depth())
		}
	}
	if err := l.Open(); err != api.ErrDeep || l.Depth() != api.MaxLevels {
		t.Error(err, l.Depth())
	}
	for i := api.MaxLevels - 1; i >= 1; i-- {
		if err := l.Keep(); err != api.OK || l.Depth() != i {
			t.Error(i, err, l.Depth())
		}
	}
}

// P9.1, P9.2: what is kept and dropped.
func TestKeepDrop(t *testing.T) {
	l := levels.New(9)
	l.Put(9, 1)
	l.Free(50)
	l.Open()
	l.Put(9, 2)
	l.Put(4, 4)
	l.Free(60)
	l.Free(-3)
	if v, ok := l.Get(9); v != 2 || !ok {
		t.Error(v, ok)
	}
	if !slices.Equal(l.Frees(), []int{50, 60, -3}) {
		t.Error(l.Frees())
	}
	l.Drop()
	if v, ok := l.Get(9); v != 1 || !ok {
		t.Error(v, ok)
	}
	if _, ok := l.Get(4); ok {
		t.Error("4 is gone")
	}
	if !slices.Equal(l.Frees(), []int{50}) || l.Room() != 8 {
		t.Error(l.Frees(), l.Room())
	}
	l.Open()
	l.Put(7, 7)
	l.Put(9, 3)
	l.Free(61)
	l.Open()
	l.Free(62)
	l.Put(7, 8)
	l.Put(5, 5)
	l.Keep()
	l.Free(63)
	l.Keep()
	if !slices.Equal(l.Cells(), []api.Cell{{At: 9, Word: 3}, {At: 7, Word: 8}, {At: 5, Word: 5}}) {
		t.Error(l.Cells())
	}
	if !slices.Equal(l.Frees(), []int{50, 61, 62, 63}) || l.Room() != 6 {
		t.Error(l.Frees(), l.Room())
	}
}

// P9.2: Put's refusals, and Room over all levels.
func TestPut(t *testing.T) {
	l := levels.New(3)
	l.Put(1, 1)
	l.Put(2, 1)
	l.Open()
	if l.Room() != 1 || l.Put(1, 5) != api.OK || l.Room() != 0 {
		t.Error("the inmost one counts on its own", l.Room())
	}
	if l.Put(2, 5) != api.ErrLog || l.Put(3, 5) != api.ErrLog || l.Put(1, 6) != api.OK {
		t.Error("no room")
	}
	for _, at := range []int{0, -1, 256, 1 << 40} {
		if l.Put(at, 1) != api.ErrAddr {
			t.Error(at)
		}
	}
	if v, _ := l.Get(2); v != 1 {
		t.Error(v)
	}
	if l.Keep() != api.OK || l.Room() != 1 {
		t.Error("kept", l.Room())
	}
	for most, want := range map[int]int{-1: 0, 0: 0, 96: 96, 97: 96} {
		if got := levels.New(most).Room(); got != want {
			t.Error(most, got)
		}
	}
}

// P9.2: Take, whole or not at all.
func TestTake(t *testing.T) {
	l := levels.New(4)
	l.Put(1, 1)
	l.Open()
	l.Put(2, 2)
	before := l.Cells()
	for i, c := range []struct {
		cells []api.Cell
		want  api.Errno
	}{
		{[]api.Cell{{At: 2, Word: 9}, {At: 3}, {At: 4}, {At: 5}, {At: 0}}, api.ErrLog},
		{[]api.Cell{{At: 2, Word: 9}, {At: 3}, {At: 0}, {At: 4}, {At: 5}}, api.ErrAddr},
		{[]api.Cell{{At: 1}, {At: 3}, {At: 4}}, api.ErrLog},
		{[]api.Cell{{At: 300}}, api.ErrAddr},
	} {
		if got := l.Take(c.cells); got != c.want || !slices.Equal(l.Cells(), before) || l.Room() != 2 {
			t.Error(i, got, l.Cells(), l.Room())
		}
	}
	if err := l.Take([]api.Cell{{At: 3, Word: 3}, {At: 2, Word: 7}, {At: 3, Word: 4}, {At: 1, Word: 6}, {At: 3, Word: 5}}); err != api.OK {
		t.Error(err)
	}
	if !slices.Equal(l.Cells(), []api.Cell{{At: 1, Word: 6}, {At: 2, Word: 7}, {At: 3, Word: 5}}) || l.Room() != 0 {
		t.Error(l.Cells(), l.Room())
	}
}

// P9.3: Cells and Frees change nothing.
func TestCells(t *testing.T) {
	l := levels.New(20)
	if len(l.Cells()) != 0 || len(l.Frees()) != 0 {
		t.Error("empty")
	}
	l.Put(3, 1)
	l.Open()
	l.Put(8, 1)
	l.Put(3, 2)
	l.Open()
	l.Put(6, 1)
	l.Put(8, 3)
	want := []api.Cell{{At: 3, Word: 2}, {At: 8, Word: 3}, {At: 6, Word: 1}}
	l.Free(1)
	for range 2 {
		c, f := l.Cells(), l.Frees()
		if !slices.Equal(c, want) || !slices.Equal(f, []int{1}) || l.Depth() != 3 || l.Room() != 15 {
			t.Error(c, f)
		}
		c[0].Word, f[0] = 99, 99
	}
	l.Keep()
	l.Keep()
	if !slices.Equal(l.Cells(), want) {
		t.Error(l.Cells())
	}
}
