package model_test

import (
	"reflect"
	"slices"
	"strings"
	"testing"

	"quietus/api"
	"quietus/arena"
	"quietus/model"
	"quietus/text"
)

func prog(t *testing.T, s string) api.Prog {
	t.Helper()
	p, line, col, err := text.Parse(strings.ReplaceAll(s, " / ", "\n"))
	if err != api.OK {
		t.Fatal(s, line, col, err)
	}
	return p
}

// P22.1, the run of the chapter.
func TestRun(t *testing.T) {
	words := arena.Fresh(40)
	words[0] = 9
	was := slices.Clone(words)
	o := model.Run(words, prog(t, "set r0 3 / alloc r1 r0 / store r1 r0 2 / emit r1 / free r1"), 99, 99)
	want := api.Outcome{
		Kind:  api.Done,
		Slate: "15",
		Cells: []api.Cell{{At: api.Bump, Word: 19}, {At: 14, Word: 2}, {At: 17, Word: 3}},
		Frees: []int{15},
		Words: arena.Fresh(40),
	}
	want.Words[api.Bump], want.Words[14], want.Words[17] = 19, 2, 3
	if !reflect.DeepEqual(o, want) || !slices.Equal(words, was) {
		t.Error(o)
	}
	o.Cells[0].Word = 77
	if o.Words[api.Bump] != 19 {
		t.Error("shared")
	}
}

// P22.1: those that don't come to their end.
func TestRunEnds(t *testing.T) {
	words := arena.Fresh(40)
	for s, want := range map[string]api.Outcome{
		"set r0 6 / store r0 r0 0 / emit r0 / retry": {Kind: api.Blocked},
		"set r0 6 / store r0 r0 0 / emit r0 / fail":  {Kind: api.Erred, Err: api.ErrUser},
		"a: jump a":                {Kind: api.Erred, Err: api.ErrFuel},
		"open":                     {Kind: api.Erred, Err: api.ErrForm},
		"set r0 40 / load r0 r0 0": {Kind: api.Erred, Err: api.ErrAddr},
		"set r0 6 / store r0 r0 0 / store r0 r0 1":                 {Kind: api.Done, Cells: []api.Cell{{At: 6, Word: 6}, {At: 7, Word: 6}}},
		"set r0 6 / a: store r0 r0 0 / store r0 r0 1":              {Kind: api.Done, Cells: []api.Cell{{At: 6, Word: 6}, {At: 7, Word: 6}}},
		"set r0 6 / store r0 r0 0 / store r0 r0 1 / fail":          {Kind: api.Erred, Err: api.ErrUser},
		"set r0 6 / store r0 r0 0 / store r0 r0 1 / store r0 r0 2": {Kind: api.Erred, Err: api.ErrLog},
	} {
		want.Words = slices.Clone(words)
		for _, c := range want.Cells {
			want.Words[c.At] = c.Word
		}
		if o := model.Run(words, prog(t, s), 99, 2); !reflect.DeepEqual(o, want) {
			t.Errorf("%q: %v", s, o)
		}
	}
	if o := model.Run(words, prog(t, "set r0 1"), 0, 2); o.Kind != api.Erred || o.Err != api.ErrFuel {
		t.Error(o)
	}
}

// P22.1: heaps of odd lengths are as the view has them.
func TestRunOddHeaps(t *testing.T) {
	o := model.Run(nil, prog(t, "set r0 31 / store r0 r0 0 / load r1 r0 0 / emit r1"), 99, 9)
	if o.Kind != api.Done || o.Slate != "31" || len(o.Words) != api.MinWords {
		t.Error(o)
	}
	o = model.Run(make([]uint64, 1000), prog(t, "set r0 256 / load r1 r0 0"), 99, 9)
	if o.Kind != api.Erred || o.Err != api.ErrAddr || len(o.Words) != api.MaxWords {
		t.Error(o)
	}
}

// P22.2: Give.
func TestGive(t *testing.T) {
	words := arena.Fresh(40)
	words[api.Bump], words[14], words[19], words[22], words[api.Heads] = 25, 2, 1, 1, 20
	words[0] = 4
	o := model.Give(words, []int{15, 23}, 9)
	want := api.Outcome{Kind: api.Done, Cells: []api.Cell{{At: 15}, {At: api.Heads + 1, Word: 15}, {At: 23, Word: 20}, {At: api.Heads, Word: 23}}}
	want.Words = slices.Clone(words)
	want.Words[0], want.Words[15], want.Words[api.Heads+1], want.Words[23], want.Words[api.Heads] = 0, 0, 15, 20, 23
	if !reflect.DeepEqual(o, want) {
		t.Error(o)
	}
	plain := slices.Clone(words)
	plain[0] = 0
	for _, c := range []struct {
		blocks []int
		most   int
		err    api.Errno
	}{{[]int{15, 16}, 9, api.ErrAddr}, {[]int{-1}, 9, api.ErrAddr}, {[]int{15, 23}, 3, api.ErrLog}, {[]int{1 << 40}, 9, api.ErrAddr}} {
		if o := model.Give(words, c.blocks, c.most); !reflect.DeepEqual(o, api.Outcome{Kind: api.Erred, Err: c.err, Words: plain}) {
			t.Error(c, o)
		}
	}
	if o := model.Give(words, nil, 0); o.Kind != api.Done || len(o.Cells) != 0 || !slices.Equal(o.Words, plain) {
		t.Error(o)
	}
}

// P22.3: Apply.
func TestApply(t *testing.T) {
	long := make([]uint64, 300)
	for i := range long {
		long[i] = uint64(i) + 1
	}
	for n, size := range map[int]int{0: 32, 3: 32, 32: 32, 50: 50, 256: 256, 300: 256} {
		got := model.Apply(long[:n], nil)
		if len(got) != size || got[0] != 0 {
			t.Error(n, len(got))
		}
		for at := 1; at < size; at++ {
			want := uint64(0)
			if at < n {
				want = long[at]
			}
			if got[at] != want {
				t.Error(n, at, got[at])
			}
		}
	}
	got := model.Apply(long[:40], []api.Cell{{At: 0, Word: 5}, {At: 39, Word: 5}, {At: 40, Word: 5}, {At: -1, Word: 5}, {At: 39, Word: 6}, {At: 1 << 40, Word: 5}, {At: 1, Word: 0}})
	if got[0] != 0 || got[39] != 6 || got[1] != 0 || len(got) != 40 || long[39] != 40 || long[1] != 2 {
		t.Error(got)
	}
}
