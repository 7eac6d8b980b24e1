package tree

import (
	"testing"

	"quietus/api"
	"quietus/arena"
	"quietus/view"
)

// black holds what stands at and below a block against the rules of red-black
// trees, and answers how many black blocks stand on each way down.
func (t *tree) black(test *testing.T, block, lo, hi uint64) int {
	if block == 0 {
		return 1
	}
	k := t.key(block)
	if k < lo || k > hi {
		test.Fatal("order", k, lo, hi)
	}
	l, r := t.child(block, left), t.child(block, right)
	if t.red(block) && (t.red(l) || t.red(r)) {
		test.Fatal("a red block under a red one")
	}
	a, b := 0, 0
	if k > 0 {
		a = t.black(test, l, lo, k-1)
	}
	if k < 1<<64-1 {
		b = t.black(test, r, k+1, hi)
	}
	if a != b && k > 0 && k < 1<<64-1 {
		test.Fatal("black blocks", a, b)
	}
	if !t.red(block) {
		a++
	}
	return a
}

func TestRules(test *testing.T) {
	for seed := range uint64(60) {
		draw := func(n uint64) uint64 {
			seed = seed*6364136223846793005 + 1442695040888963407
			return seed >> 33 % n
		}
		words := arena.Fresh(256)
		keys := 10 + draw(50)
		for range 400 {
			v := view.Whole(words, api.MaxWrites)
			k := 1 + draw(keys)
			var err api.Errno
			if draw(2) == 0 {
				_, err = Del(v, api.Roots, k)
			} else if _, err = Put(v, api.Roots, k, k); err == api.ErrFull {
				continue
			}
			if err != api.OK {
				test.Fatal(err)
			}
			for _, b := range v.Frees() {
				arena.Give(v, b)
			}
			for _, c := range v.Cells() {
				words[c.At] = c.Word
			}
			t := open(view.Whole(words, 0), api.Roots)
			if t.red(t.top()) {
				test.Fatal("a red root")
			}
			t.black(test, t.top(), 1, keys)
			if t.Failed() {
				test.Fatal("the words are no tree")
			}
		}
	}
}
