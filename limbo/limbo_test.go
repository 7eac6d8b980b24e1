package limbo_test

import (
	"slices"
	"testing"

	"quietus/api"
	"quietus/limbo"
)

// P12.1: Add, All, Len.
func TestAdd(t *testing.T) {
	l := limbo.New()
	if l.Len() != 0 || len(l.All()) != 0 || len(l.Ripe(nil)) != 0 {
		t.Error("none")
	}
	blocks := []int{20, 15}
	l.Add(9, blocks)
	blocks[0] = 1
	l.Add(7, []int{-4})
	l.Add(8, nil)
	l.Add(9, []int{20})
	want := []api.Rest{{At: 20, Stamp: 9}, {At: 15, Stamp: 9}, {At: -4, Stamp: 7}, {At: 20, Stamp: 9}}
	if !slices.Equal(l.All(), want) || l.Len() != 4 {
		t.Error(l.All(), l.Len())
	}
	l.All()[0].At = 99
	if l.All()[0].At != 20 {
		t.Error("shared")
	}
}

// P12.1: Ripe.
func TestRipe(t *testing.T) {
	l := limbo.New()
	l.Add(7, []int{15})
	l.Add(9, []int{20})
	l.Add(7, []int{30})
	if got := l.Ripe([]uint64{7, 0}); len(got) != 0 || l.Len() != 3 {
		t.Error(got)
	}
	if got := l.Ripe([]uint64{8, 0}); !slices.Equal(got, []api.Rest{{At: 15, Stamp: 7}, {At: 30, Stamp: 7}}) {
		t.Error(got)
	}
	if !slices.Equal(l.All(), []api.Rest{{At: 20, Stamp: 9}}) || l.Len() != 1 {
		t.Error(l.All())
	}
	l.Add(3, []int{40})
	if got := l.Ripe([]uint64{0, 0}); !slices.Equal(got, []api.Rest{{At: 20, Stamp: 9}, {At: 40, Stamp: 3}}) || l.Len() != 0 {
		t.Error(got, l.Len())
	}
}
