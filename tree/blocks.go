package tree

import (
	"quietus/api"
	"quietus/draft"
)

// side is left or right.
type side uint64

const (
	left  side = 0
	right side = 1
)

func (s side) other() side { return 1 - s }

// step is a block on the way down, and the side to which the way goes on.
type step struct {
	block uint64
	to    side
}

// tree is an object at work, and the way down from its root that was sought.
type tree struct {
	*draft.Draft
	root uint64
	way  []step
}

// A block's words are its key, what that has, and its children. A child's word
// is twice its place; the left one's has 1 more, if the block itself is red:
// so four words are enough.
const (
	key   = 0
	val   = 1
	links = 2
	words = 4
)

// word reads one of a block's words; a word that isn't the arena's is no block's.
func (t *tree) word(block uint64, i uint64) uint64 {
	if block < api.First {
		t.Fail()
	}
	return t.Read(block + i)
}

func (t *tree) set(block uint64, i uint64, x uint64) {
	if block < api.First {
		t.Fail()
	}
	t.Write(block+i, x)
}

func (t *tree) top() uint64 { return t.Read(t.root) }

func (t *tree) key(block uint64) uint64 { return t.word(block, key) }

func (t *tree) val(block uint64) uint64 { return t.word(block, val) }

func (t *tree) setVal(block, x uint64) { t.set(block, val, x) }

func (t *tree) child(block uint64, s side) uint64 {
	return t.word(block, links+uint64(s)) / 2
}

func (t *tree) setChild(block uint64, s side, child uint64) {
	at := links + uint64(s)
	t.set(block, at, child*2+t.word(block, at)%2)
}

// red tells whether a block is red; where there is none it is black.
func (t *tree) red(block uint64) bool {
	return block != 0 && t.word(block, links)%2 == 1
}

func (t *tree) paint(block uint64, red bool) {
	w := t.word(block, links) / 2 * 2
	if red {
		w++
	}
	t.set(block, links, w)
}

// seek goes down to k's block; 0: there is none, and the way ends where it would be.
func (t *tree) seek(k uint64) uint64 {
	block := t.top()
	for block != 0 {
		x := t.key(block)
		if x == k {
			return block
		}
		to := left
		if x < k {
			to = right
		}
		t.way = append(t.way, step{block, to})
		block = t.child(block, to)
	}
	return 0
}

// hang puts a block where the way leads to from its step i - 1: i is 0 of the root.
func (t *tree) hang(i int, block uint64) {
	if i == 0 {
		t.Write(t.root, block)
		return
	}
	t.setChild(t.way[i-1].block, t.way[i-1].to, block)
}

// turn lets a block's child of side s take its place above it; what was between
// the two changes over. It answers the child, which isn't hung up yet.
func (t *tree) turn(block uint64, s side) uint64 {
	up := t.child(block, s)
	t.setChild(block, s, t.child(up, s.other()))
	t.setChild(up, s.other(), block)
	return up
}
