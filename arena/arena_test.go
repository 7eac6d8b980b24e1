package arena_test

import (
	"reflect"
	"slices"
	"testing"

	"quietus/api"
	"quietus/arena"
	"quietus/view"
)

// heap writes cells over a new heap of 40 words.
func heap(cells ...api.Cell) []uint64 {
	words := arena.Fresh(40)
	for _, c := range cells {
		words[c.At] = c.Word
	}
	return words
}

func cell(at int, w uint64) api.Cell { return api.Cell{At: at, Word: w} }

// P11.1: Class, Size, Fresh.
func TestClassSizeFresh(t *testing.T) {
	for n := -3; n < 40; n++ {
		want := 0
		switch {
		case n < 1 || n > 16:
		case n <= 2:
			want = 1
		case n <= 4:
			want = 2
		case n <= 8:
			want = 3
		default:
			want = 4
		}
		if got := arena.Class(n); got != want {
			t.Error(n, got)
		}
	}
	if arena.Class(1<<63-1) != 0 || arena.Class(-1<<63) != 0 {
		t.Error("far numbers")
	}
	for class, want := range map[int]int{-1: 0, 0: 0, 1: 2, 2: 4, 3: 8, 4: 16, 5: 0, 1 << 40: 0, -1 << 63: 0} {
		if got := arena.Size(class); got != want {
			t.Error(class, got)
		}
	}
	for n, want := range map[int]int{-1: 32, 31: 32, 40: 40, 257: 256} {
		got := arena.Fresh(n)
		rest := slices.Clone(got)
		rest[api.Bump] = 0
		if len(got) != want || got[api.Bump] != api.First || !slices.Equal(rest, make([]uint64, want)) {
			t.Error(n, got)
		}
	}
}

// P11.2: unused words, then free blocks.
func TestAlloc(t *testing.T) {
	v := view.Whole(arena.Fresh(40), 20)
	if b, err := arena.Alloc(v, 3); b != 15 || err != api.OK {
		t.Error(b, err)
	}
	if !slices.Equal(v.Cells(), []api.Cell{cell(api.Bump, 19), cell(14, api.Alive+2)}) {
		t.Error(v.Cells())
	}
	if b, err := arena.Alloc(v, 16); b != 20 || err != api.OK {
		t.Error(b, err)
	}
	// 36 to 39 are left: a header and three words.
	if b, err := arena.Alloc(v, 3); b != 0 || err != api.ErrFull {
		t.Error(b, err)
	}
	if b, err := arena.Alloc(v, 2); b != 37 || err != api.OK {
		t.Error(b, err)
	}
	for _, n := range []int{0, -1, 17, 1 << 62} {
		if b, err := arena.Alloc(v, n); b != 0 || err != api.ErrSize {
			t.Error(n, b, err)
		}
	}
	v = view.Whole(heap(cell(api.Heads+1, 15), cell(15, 20), cell(14, 2), cell(16, 77)), 20)
	if b, err := arena.Alloc(v, 4); b != 15 || err != api.OK {
		t.Error(b, err)
	}
	if !slices.Equal(v.Cells(), []api.Cell{cell(api.Heads+1, 20), cell(14, api.Alive+2)}) {
		t.Error(v.Cells())
	}
	if x, _ := v.Read(16); x != 77 {
		t.Error("what stands in the block stays", x)
	}
}

// P11.2: a block that ends just with the heap.
func TestAllocEdge(t *testing.T) {
	v := view.Whole(heap(cell(api.Bump, 37)), 20)
	if b, err := arena.Alloc(v, 2); b != 38 || err != api.OK {
		t.Error(b, err)
	}
	if x, _ := v.Read(api.Bump); x != 40 {
		t.Error(x)
	}
	if b, err := arena.Alloc(v, 1); b != 0 || err != api.ErrFull {
		t.Error(b, err)
	}
}

// P11.2: words that name no places, and rooms that are full.
func TestAllocRefuses(t *testing.T) {
	for i, c := range []struct {
		words []uint64
		room  int
		want  api.Errno
	}{
		{heap(cell(api.Bump, 13)), 9, api.ErrFull},
		{heap(cell(api.Bump, 0)), 9, api.ErrFull},
		{heap(cell(api.Bump, 38)), 9, api.ErrFull},
		{heap(cell(api.Bump, 40)), 9, api.ErrFull},
		{heap(cell(api.Bump, 41)), 9, api.ErrFull},
		{heap(cell(api.Bump, 1<<31)), 9, api.ErrFull},
		{heap(cell(api.Bump, 1<<64-1)), 9, api.ErrFull},
		{heap(cell(api.Bump, 1<<64-3)), 9, api.ErrFull},
		{heap(cell(api.Heads, 40)), 9, api.ErrAddr},
		{heap(cell(api.Heads, 1<<31)), 9, api.ErrAddr},
		{heap(cell(api.Heads, 1<<63)), 9, api.ErrAddr},
		{heap(cell(api.Heads, 1<<64-1)), 9, api.ErrAddr},
		{heap(cell(api.Heads, 1<<32+20)), 9, api.ErrAddr},
		{heap(cell(api.Heads, 1)), 9, api.ErrAddr},
		{heap(cell(api.Heads, 20)), 1, api.ErrLog},
		{heap(), 1, api.ErrLog},
	} {
		v := view.Whole(c.words, c.room)
		if b, err := arena.Alloc(v, 2); b != 0 || err != c.want || len(v.Cells()) != 0 {
			t.Error(i, b, err, v.Cells())
		}
	}
}

// P11.2: which words it needs, in their order.
func TestAllocNeeds(t *testing.T) {
	v := view.New(40, 9)
	for _, at := range []int{api.Heads + 2, api.Bump} {
		if b, err := arena.Alloc(v, 8); b != 0 || err != api.ErrNeed || v.Need() != at || len(v.Cells()) != 0 {
			t.Error(b, err, v.Need())
		}
		v.Know(at, 0)
		if at == api.Heads+2 {
			continue
		}
		if b, err := arena.Alloc(v, 8); b != 0 || err != api.ErrFull {
			t.Error(b, err)
		}
	}
	v = view.New(40, 9)
	v.Know(api.Heads, 20)
	if _, err := arena.Alloc(v, 1); err != api.ErrNeed || v.Need() != 20 {
		t.Error(err, v.Need())
	}
	v.Know(20, 1<<64-1)
	if b, err := arena.Alloc(v, 1); b != 20 || err != api.OK {
		t.Error(b, err)
	}
	if x, _ := v.Read(api.Heads); x != 1<<64-1 {
		t.Error(x)
	}
}

// P11.3: Free.
func TestFree(t *testing.T) {
	for h := uint64(0); h < 20; h++ {
		v := view.Whole(heap(cell(20, h)), 9)
		want := api.ErrAddr
		if h >= api.Alive+1 && h <= api.Alive+4 {
			want = api.OK
		}
		if err := arena.Free(v, 21); err != want {
			t.Error(h, err)
		}
		if want != api.OK {
			if len(v.Cells()) != 0 || len(v.Frees()) != 0 {
				t.Error(h, v.Cells(), v.Frees())
			}
		} else if !slices.Equal(v.Cells(), []api.Cell{cell(20, h-api.Alive)}) || !slices.Equal(v.Frees(), []int{21}) {
			t.Error(h, v.Cells(), v.Frees())
		}
	}
	v := view.Whole(heap(cell(13, 9), cell(38, 9)), 0)
	for _, b := range []int{14, 0, -1, 40, 1 << 40, -1 << 63} {
		if err := arena.Free(v, b); err != api.ErrAddr {
			t.Error(b, err)
		}
	}
	if err := arena.Free(v, 39); err != api.ErrLog || len(v.Frees()) != 0 {
		t.Error(err, v.Frees())
	}
	v = view.New(40, 9)
	if err := arena.Free(v, 15); err != api.ErrNeed || v.Need() != 14 || len(v.Frees()) != 0 {
		t.Error(err, v.Need())
	}
}

// P11.3: Give.
func TestGive(t *testing.T) {
	for h := uint64(0); h < 20; h++ {
		v := view.Whole(heap(cell(20, h), cell(api.Heads, 31), cell(api.Heads+1, 32), cell(api.Heads+2, 33), cell(api.Heads+3, 34)), 9)
		err := arena.Give(v, 21)
		if h < 1 || h > 4 {
			if err != api.ErrAddr || len(v.Cells()) != 0 {
				t.Error(h, err, v.Cells())
			}
			continue
		}
		if err != api.OK || !slices.Equal(v.Cells(), []api.Cell{cell(21, 30+h), cell(int(h), 21)}) || len(v.Frees()) != 0 {
			t.Error(h, err, v.Cells())
		}
	}
	v := view.Whole(heap(cell(13, 1), cell(38, 1)), 1)
	for _, b := range []int{14, 0, -1, 40, 1 << 40} {
		if err := arena.Give(v, b); err != api.ErrAddr {
			t.Error(b, err)
		}
	}
	if err := arena.Give(v, 39); err != api.ErrLog || len(v.Cells()) != 0 {
		t.Error(err, v.Cells())
	}
	v = view.New(40, 9)
	if err := arena.Give(v, 15); err != api.ErrNeed || v.Need() != 14 {
		t.Error(err, v.Need())
	}
	v.Know(14, 3)
	if err := arena.Give(v, 15); err != api.ErrNeed || v.Need() != api.Heads+2 || len(v.Cells()) != 0 {
		t.Error(err, v.Need())
	}
}

// The run of the chapter.
func TestRun(t *testing.T) {
	v := view.Whole(arena.Fresh(40), 20)
	a, _ := arena.Alloc(v, 3)
	err, err2 := arena.Free(v, a), arena.Give(v, a)
	b, _ := arena.Alloc(v, 4)
	if a != 15 || err != api.OK || err2 != api.OK || b != 15 {
		t.Error(a, err, err2, b)
	}
}

// P11.4: Blocks.
func TestBlocks(t *testing.T) {
	full := heap(cell(api.Bump, 40), cell(14, 9), cell(17, 4), cell(34, 10), cell(39, 0))
	full[api.Bump] = 39
	got, err := arena.Blocks(full)
	want := []api.Block{{At: 15, Class: 1, Live: true}, {At: 18, Class: 4}, {At: 35, Class: 2, Live: true}}
	if err != api.OK || !slices.Equal(got, want) {
		t.Error(got, err)
	}
	if got, err := arena.Blocks(arena.Fresh(32)); err != api.OK || len(got) != 0 {
		t.Error(got, err)
	}
	for i, words := range [][]uint64{
		nil, make([]uint64, 31), make([]uint64, 257), make([]uint64, 40),
		heap(cell(api.Bump, 13)), heap(cell(api.Bump, 41)), heap(cell(api.Bump, 1<<63)),
		heap(cell(api.Bump, 15)), heap(cell(api.Bump, 17)),
		heap(cell(api.Bump, 17), cell(14, 5)), heap(cell(api.Bump, 17), cell(14, 8)), heap(cell(api.Bump, 17), cell(14, 13)), heap(cell(api.Bump, 17), cell(14, 17)),
		heap(cell(api.Bump, 16), cell(14, 1)), heap(cell(api.Bump, 18), cell(14, 1)), heap(cell(api.Bump, 40), cell(14, 9), cell(17, 12), cell(34, 11)),
		heap(cell(api.Bump, 17), cell(14, 1<<63)),
	} {
		if got, err := arena.Blocks(words); err != api.ErrForm || len(got) != 0 {
			t.Error(i, got, err)
		}
		if got, err := arena.Lists(words); err != api.ErrForm || len(got) != 0 {
			t.Error(i, got, err)
		}
	}
	if got, err := arena.Blocks(arena.Fresh(256)); err != api.OK || len(got) != 0 {
		t.Error("the longest", got, err)
	}
	if got, err := arena.Blocks(heap(cell(api.Bump, 40), cell(14, 9), cell(17, 1), cell(20, 1), cell(23, 12))); err != api.OK || len(got) != 4 {
		t.Error("just full", got, err)
	}
}

// P11.4: Lists.
func TestLists(t *testing.T) {
	base := []api.Cell{cell(api.Bump, 31), cell(14, 1), cell(17, 1), cell(20, 9), cell(23, 2), cell(28, 1)}
	with := func(more ...api.Cell) []uint64 { return heap(append(slices.Clone(base), more...)...) }
	got, err := arena.Lists(with(cell(api.Heads, 18), cell(18, 15), cell(api.Heads+1, 24)))
	if err != api.OK || !reflect.DeepEqual(got, [][]int{{18, 15}, {24}, nil, nil}) {
		t.Error(got, err)
	}
	for i, words := range [][]uint64{
		with(cell(api.Heads, 21)),                                   // live
		with(cell(api.Heads, 24)),                                   // of another class
		with(cell(api.Heads, 16)),                                   // within a block
		with(cell(api.Heads, 32)),                                   // behind all
		with(cell(api.Heads, 1<<63)),                                // no place
		with(cell(api.Heads, 40)),                                   // no place
		with(cell(api.Heads, 15), cell(15, 15)),                     // twice
		with(cell(api.Heads, 15), cell(15, 18), cell(18, 15)),       // twice
		with(cell(api.Heads+3, 24)),                                 // of another class
		with(cell(api.Heads+1, 24), cell(24, 15), cell(26, 1)),      // of another class behind one
		with(cell(api.Heads, 15), cell(15, 1<<64-1)),                // no place behind one
		with(cell(api.Heads+1, 24), cell(24, 24)),                   // itself
		with(cell(api.Heads, 18), cell(18, 15), cell(15, api.Bump)), // below the arena
	} {
		if got, err := arena.Lists(words); err != api.ErrForm || len(got) != 0 {
			t.Error(i, got, err)
		}
	}
	if got, err := arena.Lists(arena.Fresh(40)); err != api.OK || len(got) != 4 {
		t.Error(got, err)
	}
}
