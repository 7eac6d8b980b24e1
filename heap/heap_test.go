package heap_test

import (
	"testing"

	"quietus/api"
	"quietus/heap"
)

// P2.1: how many words there are.
func TestLen(t *testing.T) {
	for n, want := range map[int]int{
		-1 << 63: api.MinWords, -1: api.MinWords, 0: api.MinWords, 31: api.MinWords, 32: 32, 33: 33,
		255: 255, 256: 256, 257: api.MaxWords, 1<<63 - 1: api.MaxWords,
	} {
		h := heap.New(n)
		if h.Len() != want || len(h.All()) != want {
			t.Error(n, h.Len(), len(h.All()))
		}
		for i, w := range h.All() {
			if w != 0 {
				t.Error(n, i, w)
			}
		}
	}
}

// P2.1: Load and Store.
func TestLoadStore(t *testing.T) {
	h := heap.New(40)
	for at := 1; at < 40; at++ {
		if err := h.Store(at, uint64(at)<<56+1); err != api.OK {
			t.Error(at, err)
		}
	}
	for at := 1; at < 40; at++ {
		if w, err := h.Load(at); err != api.OK || w != uint64(at)<<56+1 {
			t.Error(at, w, err)
		}
	}
	before := h.All()
	for _, at := range []int{0, -1, 40, 41, 256, 1<<63 - 1, -1 << 63} {
		if w, err := h.Load(at); err != api.ErrAddr || w != 0 {
			t.Error(at, w, err)
		}
		if err := h.Store(at, 5); err != api.ErrAddr {
			t.Error(at, err)
		}
	}
	for i, w := range h.All() {
		if w != before[i] {
			t.Error(i, w)
		}
	}
}

// P2.2: All and Copy share nothing with the heap.
func TestAllCopy(t *testing.T) {
	h := heap.New(32)
	h.Store(31, 7)
	all := h.All()
	if all[31] != 7 || all[0] != 0 {
		t.Error(all)
	}
	all[31] = 8
	c := h.Copy()
	if w, _ := c.Load(31); w != 7 || c.Len() != 32 {
		t.Error(w, c.Len())
	}
	c.Store(31, 9)
	h.Store(30, 3)
	if w, _ := h.Load(31); w != 7 {
		t.Error(w)
	}
	if w, _ := c.Load(30); w != 0 {
		t.Error(w)
	}
}
