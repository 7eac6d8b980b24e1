package view_test

import (
	"slices"
	"testing"

	"quietus/api"
	"quietus/view"
)

// P10.1: Size, Know, Known.
func TestKnow(t *testing.T) {
	for words, want := range map[int]int{-1: 32, 0: 32, 32: 32, 100: 100, 256: 256, 257: 256, 1 << 40: 256} {
		v := view.New(words, 9)
		if v.Size() != want || len(v.Known()) != 0 || v.Need() != 0 || v.Depth() != 1 || v.Room() != 9 {
			t.Error(words, v.Size())
		}
		if v.Know(want-1, 1) != api.OK || v.Know(want, 1) != api.ErrAddr || v.Know(0, 0) != api.ErrAddr || v.Know(-1, 0) != api.ErrAddr {
			t.Error(words, "places")
		}
	}
	v := view.New(40, 9)
	for i, c := range []struct {
		at   int
		x    uint64
		want api.Errno
	}{{7, 5, api.OK}, {3, 0, api.OK}, {7, 5, api.OK}, {7, 6, api.ErrStale}, {3, 1, api.ErrStale}, {39, 8, api.OK}} {
		if got := v.Know(c.at, c.x); got != c.want {
			t.Error(i, got)
		}
	}
	want := []api.Cell{{At: 7, Word: 5}, {At: 3}, {At: 39, Word: 8}}
	v.Known()[0].Word = 77
	if !slices.Equal(v.Known(), want) {
		t.Error(v.Known())
	}
}

// P10.1: Whole.
func TestWhole(t *testing.T) {
	words := make([]uint64, 300)
	for i := range words {
		words[i] = uint64(i) + 1000
	}
	for n, size := range map[int]int{0: 32, 5: 32, 32: 32, 40: 40, 256: 256, 300: 256} {
		v := view.Whole(words[:n], 9)
		known := v.Known()
		if v.Size() != size || len(known) != size-1 {
			t.Error(n, v.Size(), len(known))
			continue
		}
		for i, c := range known {
			want := uint64(0)
			if i+1 < n {
				want = words[i+1]
			}
			if c.At != i+1 || c.Word != want {
				t.Error(n, i, c)
			}
		}
	}
}

// P10.2: Read and Need.
func TestRead(t *testing.T) {
	v := view.New(40, 9)
	if _, err := v.Read(40); err != api.ErrAddr || v.Need() != 0 {
		t.Error(err, v.Need())
	}
	if x, err := v.Read(7); x != 0 || err != api.ErrNeed || v.Need() != 7 {
		t.Error(x, err, v.Need())
	}
	v.Know(7, 5)
	if x, err := v.Read(7); x != 5 || err != api.OK {
		t.Error(x, err)
	}
	v.Write(7, 6)
	v.Write(8, 9)
	if x, err := v.Read(7); x != 6 || err != api.OK {
		t.Error(x, err)
	}
	if x, err := v.Read(8); x != 9 || err != api.OK {
		t.Error(x, err)
	}
	if !slices.Equal(v.Known(), []api.Cell{{At: 7, Word: 5}}) {
		t.Error(v.Known())
	}
	v.Open()
	v.Write(7, 0)
	if x, err := v.Read(7); x != 0 || err != api.OK {
		t.Error(x, err)
	}
	v.Drop()
	if x, _ := v.Read(7); x != 6 {
		t.Error(x)
	}
	v.Read(0)
	v.Read(-4)
	if v.Need() != 7 {
		t.Error(v.Need())
	}
	v.Read(39)
	if v.Need() != 39 {
		t.Error(v.Need())
	}
}

// P10.3: Write and Take.
func TestWriteTake(t *testing.T) {
	v := view.New(40, 2)
	for _, at := range []int{0, -1, 40, 256} {
		if v.Write(at, 1) != api.ErrAddr || v.Take([]api.Cell{{At: 1}, {At: at}}) != api.ErrAddr {
			t.Error(at)
		}
	}
	if v.Take([]api.Cell{{At: 1}, {At: 2}, {At: 3}, {At: 40}}) != api.ErrAddr {
		t.Error("places are asked ahead of room")
	}
	if v.Take([]api.Cell{{At: 1}, {At: 2}, {At: 3}}) != api.ErrLog || len(v.Cells()) != 0 {
		t.Error("whole or not at all")
	}
	if v.Take([]api.Cell{{At: 5, Word: 1}, {At: 2, Word: 2}}) != api.OK || v.Write(3, 1) != api.ErrLog || v.Write(2, 7) != api.OK {
		t.Error("room")
	}
	if !slices.Equal(v.Cells(), []api.Cell{{At: 5, Word: 1}, {At: 2, Word: 7}}) || v.Room() != 0 {
		t.Error(v.Cells(), v.Room())
	}
}

// P10.3: what the levels do.
func TestLevels(t *testing.T) {
	v := view.New(40, 9)
	if v.Keep() != api.ErrNone || v.Drop() != api.ErrNone {
		t.Error("one level")
	}
	v.Free(20)
	v.Open()
	v.Free(30)
	v.Write(9, 1)
	if v.Depth() != 2 || !slices.Equal(v.Frees(), []int{20, 30}) || v.Room() != 8 {
		t.Error(v.Depth(), v.Frees())
	}
	v.Keep()
	v.Open()
	v.Free(31)
	v.Write(8, 1)
	v.Drop()
	if v.Depth() != 1 || !slices.Equal(v.Frees(), []int{20, 30}) || !slices.Equal(v.Cells(), []api.Cell{{At: 9, Word: 1}}) {
		t.Error(v.Depth(), v.Frees(), v.Cells())
	}
	for range api.MaxLevels - 1 {
		v.Open()
	}
	if v.Open() != api.ErrDeep {
		t.Error("too deep")
	}
}
