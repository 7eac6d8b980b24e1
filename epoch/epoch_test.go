package epoch_test

import (
	"slices"
	"testing"

	"quietus/api"
	"quietus/epoch"
)

// P5.1: how many there are.
func TestNew(t *testing.T) {
	for n, want := range map[int]int{-9: 1, 0: 1, 1: 1, 2: 2, 4: 4, 5: 4, 1 << 50: 4} {
		s := epoch.New(n)
		if s.Len() != want || !slices.Equal(s.All(), make([]uint64, want)) {
			t.Error(n, s.Len(), s.All())
		}
	}
}

// P5.1: Load, Store, All, Copy.
func TestLoadStore(t *testing.T) {
	s := epoch.New(3)
	for i := range 3 {
		if err := s.Store(i, uint64(i)+7); err != api.OK {
			t.Error(i, err)
		}
	}
	for _, i := range []int{-1, 3, 4, 1 << 50} {
		if err := s.Store(i, 1); err != api.ErrAddr {
			t.Error(i, err)
		}
		if v, err := s.Load(i); v != 0 || err != api.ErrAddr {
			t.Error(i, v, err)
		}
	}
	if v, err := s.Load(0); v != 7 || err != api.OK {
		t.Error(v, err)
	}
	all := s.All()
	all[1] = 0
	c := s.Copy()
	c.Store(2, 0)
	s.Store(0, 1)
	if !slices.Equal(s.All(), []uint64{1, 8, 9}) || !slices.Equal(c.All(), []uint64{7, 8, 0}) {
		t.Error(s.All(), c.All())
	}
}

// P5.2: Passed and Least.
func TestPassed(t *testing.T) {
	s := epoch.New(2)
	if _, ok := s.Least(); ok || !s.Passed(0) || !s.Passed(1<<64-1) {
		t.Error("all are 0")
	}
	s.Store(0, 7)
	for stamp, want := range map[uint64]bool{0: true, 6: true, 7: false, 8: false} {
		if s.Passed(stamp) != want {
			t.Error(stamp)
		}
	}
	s.Store(1, 5)
	if v, ok := s.Least(); v != 5 || !ok {
		t.Error(v, ok)
	}
	if s.Passed(5) || !s.Passed(4) {
		t.Error("two slots")
	}
	s.Store(0, 0)
	if v, ok := s.Least(); v != 5 || !ok {
		t.Error(v, ok)
	}
	for _, row := range [][3]uint64{{1, 2, 1}, {2, 1, 1}, {0, 9, 9}, {9, 0, 9}, {5, 7, 5}} {
		s.Store(0, row[0])
		s.Store(1, row[1])
		if v, ok := s.Least(); v != row[2] || !ok {
			t.Error(row, v, ok)
		}
	}
	if !epoch.Passed(nil, 9) || !epoch.Passed([]uint64{0, 10}, 9) || epoch.Passed([]uint64{10, 0, 9, 11}, 9) || !epoch.Passed(make([]uint64, 20), 9) {
		t.Error("slots of one's own")
	}
}
