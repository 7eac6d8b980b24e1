// Package objects holds tests of what P17.1 and P17.2 say of lists, tables,
// queues and trees alike.
package objects

import (
	"fmt"
	"reflect"
	"slices"
	"testing"

	"quietus/api"
	"quietus/arena"
	"quietus/view"
)

// kind is one of the containers: its calls by number, and what they should tell.
type kind struct {
	name  string
	ops   int
	call  func(v *view.View, root, op int, k, x uint64) (string, api.Errno)
	model func() model
}

type model interface {
	do(op int, k, x uint64) string
	size() int
}

// kinds are the containers that are made so far.
func kinds() []kind { return []kind{list, table, queue, tree} }

type chance uint64

func (c *chance) draw(n int) int {
	*c = *c*6364136223846793005 + 1442695040888963407
	return int(*c>>33) % n
}

// key draws small keys mostly, and the greatest and least ones.
func (c *chance) key(n int) uint64 {
	switch c.draw(20) {
	case 0:
		return 0
	case 1:
		return 1<<64 - 1
	case 2:
		return 1<<63 + uint64(c.draw(n))
	}
	return uint64(c.draw(n))
}

// answer is all that a call tells and does.
type answer struct {
	text  string
	err   api.Errno
	cells []api.Cell
	frees []int
}

func ask(k kind, v *view.View, root, op int, key, x uint64) answer {
	depth := v.Depth()
	text, err := k.call(v, root, op, key, x)
	if v.Depth() != depth {
		err = -1
	}
	return answer{text, err, v.Cells(), v.Frees()}
}

// apply does on a heap what a view is to write, and gives the freed blocks back.
func apply(t *testing.T, words []uint64, a answer) {
	t.Helper()
	for _, c := range a.cells {
		words[c.At] = c.Word
	}
	v := view.Whole(words, api.MaxWrites)
	for _, b := range a.frees {
		if err := arena.Give(v, b); err != api.OK {
			t.Fatal("freed block", b, err)
		}
	}
	for _, c := range v.Cells() {
		words[c.At] = c.Word
	}
}

func live(t *testing.T, words []uint64) int {
	t.Helper()
	blocks, err := arena.Blocks(words)
	if _, err2 := arena.Lists(words); err != api.OK || err2 != api.OK {
		t.Fatal("the arena is broken", err, err2)
	}
	n := 0
	for _, b := range blocks {
		if b.Live {
			n++
		}
	}
	return n
}

// Two objects of each kind, call by call, against maps and rows of Go: answers,
// live blocks, and that neither touches the other.
func TestAsModels(t *testing.T) {
	for _, k := range kinds() {
		for _, keys := range []int{4, 12, 60} {
			for seed := range 6 {
				asModels(t, k, keys, chance(seed+1))
			}
		}
	}
}

func asModels(t *testing.T, k kind, keys int, c chance) {
	words := arena.Fresh(200 + c.draw(57))
	roots := [2]int{api.Roots + c.draw(4), api.Roots + 4 + c.draw(4)}
	models := [2]model{k.model(), k.model()}
	owners := make([]int, len(words)) // by place: one more than the object whose word it is
	full := 0
	for range 600 {
		i := c.draw(2)
		op, key, x := c.draw(k.ops), c.key(keys), c.key(9)
		v := view.Whole(words, api.MaxWrites)
		got := ask(k, v, roots[i], op, key, x)
		if got.err == api.ErrFull {
			full++
			if words[api.Bump]+api.Spare <= uint64(len(words)) {
				t.Fatal(k.name, "there is room")
			}
			continue
		}
		want := models[i].do(op, key, x)
		if got.err != api.OK || got.text != want {
			t.Fatal(k.name, op, key, x, got, "want", want)
		}
		for _, cell := range got.cells {
			if cell.At >= api.Roots && cell.At < api.First && cell.At != roots[i] || cell.At >= api.First && owners[cell.At] == 2-i {
				t.Fatal(k.name, "another one's word is written", cell)
			}
		}
		own(owners, words, got, i)
		apply(t, words, got)
		if n := live(t, words); n > 2*models[0].size()+2*models[1].size()+4 {
			t.Fatal(k.name, n, "blocks")
		}
		for j, m := range models {
			if n := blocksOf(t, words, owners, j); n > 2*m.size()+2 {
				t.Fatal(k.name, n, "blocks of", m.size())
			}
		}
	}
	if full > 300 {
		t.Fatal(k.name, "mostly full")
	}
}

// own notes whose the blocks are that a call has taken and freed.
func own(owners []int, words []uint64, a answer, i int) {
	for _, c := range a.cells {
		if c.At >= api.First && c.Word > api.Alive && c.Word <= api.Alive+4 && isHeader(words, a, c.At) {
			for at := c.At + 1; at <= c.At+arena.Size(int(c.Word-api.Alive)); at++ {
				owners[at] = i + 1
			}
		}
	}
	for _, b := range a.frees {
		class := 0
		for _, c := range a.cells {
			if c.At == b-1 {
				class = int(c.Word)
			}
		}
		for at := b; at < b+arena.Size(class); at++ {
			owners[at] = 0
		}
	}
}

func isHeader(words []uint64, a answer, at int) bool {
	after := slices.Clone(words)
	for _, c := range a.cells {
		after[c.At] = c.Word
	}
	blocks, _ := arena.Blocks(after)
	return slices.ContainsFunc(blocks, func(b api.Block) bool { return b.At == at+1 && b.Live })
}

func blocksOf(t *testing.T, words []uint64, owners []int, i int) int {
	blocks, _ := arena.Blocks(words)
	n := 0
	for _, b := range blocks {
		if b.Live && owners[b.At] == i+1 {
			n++
		}
	}
	return n
}

// grow makes a heap of n words with an object of about size elements at root.
func grow(t *testing.T, k kind, n, root, size int, c *chance) []uint64 {
	t.Helper()
	words := arena.Fresh(n)
	m := k.model()
	for m.size() < size && words[api.Bump]+api.Spare <= uint64(n) {
		key, x := c.key(500), c.key(9)
		m.do(0, key, x)
		a := ask(k, view.Whole(words, api.MaxWrites), root, 0, key, x)
		if a.err != api.OK {
			t.Fatal(k.name, a)
		}
		apply(t, words, a)
	}
	return words
}

// P17.1: a view that knows nothing comes to the same, word by word, and reads
// no other object's words.
func TestNeeds(t *testing.T) {
	for _, k := range kinds() {
		c := chance(77)
		for range 150 {
			words := grow(t, k, 256, api.Roots+3, c.draw(30), &c)
			other := slices.Clone(words)
			for at := 1; at < len(words); at++ {
				if at >= api.Roots && at < api.First && at != api.Roots+3 {
					other[at] = 1<<64 - 1
				}
			}
			op, key, x := c.draw(k.ops), c.key(500), c.key(9)
			want := ask(k, view.Whole(words, api.MaxWrites), api.Roots+3, op, key, x)
			v := view.New(len(words), api.MaxWrites)
			got := ask(k, v, api.Roots+3, op, key, x)
			for got.err == api.ErrNeed {
				at := v.Need()
				if len(got.cells) > 0 || len(got.frees) > 0 || got.text != "" || v.Know(at, other[at]) != api.OK {
					t.Fatal(k.name, "something is done", got)
				}
				if at >= api.Roots && at < api.First && at != api.Roots+3 {
					t.Fatal(k.name, "another root is read")
				}
				got = ask(k, v, api.Roots+3, op, key, x)
			}
			if !reflect.DeepEqual(got, want) {
				t.Fatal(k.name, op, key, x, got, want)
			}
		}
	}
}

// P17.2: no ErrLog with room for Cells, no ErrDeep; with less room all or nothing.
func TestRoom(t *testing.T) {
	for _, k := range kinds() {
		c := chance(99)
		for range 60 {
			words := grow(t, k, 256, api.Roots, c.draw(50), &c)
			op, key, x := c.draw(k.ops), c.key(500), c.key(9)
			want := ask(k, view.Whole(words, api.MaxWrites), api.Roots, op, key, x)
			for _, room := range []int{api.Cells, 0, 1, 2, 3, 5, 8, 20} {
				v := view.Whole(words, room+2)
				v.Write(1+api.Bump+4, 5)
				v.Free(3)
				for range api.MaxLevels - 1 {
					v.Open()
				}
				v.Write(api.First-1, 5)
				base := answer{cells: v.Cells(), frees: v.Frees()}
				got := ask(k, v, api.Roots, op, key, x)
				if want.err == api.OK && len(want.cells) <= room {
					if got.err != api.OK || got.text != want.text || !slices.Equal(got.cells[2:], want.cells) || !slices.Equal(got.frees[1:], want.frees) {
						t.Fatal(k.name, room, op, key, got, want)
					}
					continue
				}
				if room == api.Cells && want.err == api.OK || got.err == api.OK {
					t.Fatal(k.name, room, got, want)
				}
				base.err = got.err
				if !reflect.DeepEqual(got, base) || want.err == api.OK && got.err != api.ErrLog {
					t.Fatal(k.name, room, got, base)
				}
			}
		}
	}
}

// P17.2: no ErrFull with Spare words behind the bump; with less all or nothing.
func TestSpare(t *testing.T) {
	for _, k := range kinds() {
		c := chance(55)
		for size := range 26 {
			for spare := range api.Spare + 1 {
				words := grow(t, k, 256, api.Roots, size, &c)
				small := words[:min(256, int(words[api.Bump])+spare)]
				if len(small) < api.MinWords {
					continue
				}
				key := c.key(1 << 30)
				want := ask(k, view.Whole(words, api.MaxWrites), api.Roots, 0, key, 1)
				got := ask(k, view.Whole(small, api.MaxWrites), api.Roots, 0, key, 1)
				if got.err == api.ErrFull && spare < api.Spare {
					if len(got.cells) > 0 || len(got.frees) > 0 || got.text != "" {
						t.Fatal(k.name, got)
					}
					continue
				}
				if !reflect.DeepEqual(got, want) {
					t.Fatal(k.name, size, spare, got, want)
				}
			}
		}
	}
}

// P17.1: roots that are none, ahead of all else.
func TestRoots(t *testing.T) {
	for _, k := range kinds() {
		for op := range k.ops {
			for _, root := range []int{api.Roots - 1, api.Roots + api.MaxRoots, 0, -1, 1 << 40, -1 << 63, 1<<63 - 1} {
				v := view.New(100, 0)
				if got := ask(k, v, root, op, 1, 1); !reflect.DeepEqual(got, answer{err: api.ErrAddr}) || v.Need() != 0 {
					t.Error(k.name, op, root, got)
				}
			}
			for root := api.Roots; root < api.Roots+api.MaxRoots; root++ {
				v := view.New(100, 0)
				if got := ask(k, v, root, op, 1, 1); got.err != api.ErrNeed || v.Need() != root {
					t.Error(k.name, op, root, got, v.Need())
				}
				v.Know(root, 0)
				if k.ops-op <= 2 && ask(k, v, root, op, 1, 1).err != api.OK {
					t.Error(k.name, op, "an object of a new heap is there")
				}
			}
		}
	}
}

// R1, P17.1: words that no call of the package made.
func TestGarbage(t *testing.T) {
	for _, k := range kinds() {
		c := chance(7)
		for range 4000 {
			words := make([]uint64, api.MinWords+c.draw(230))
			for i := range words {
				switch c.draw(12) {
				case 0:
					words[i] = uint64(c)
				case 1:
					words[i] = 1<<64 - 1 - uint64(c.draw(4))
				case 2:
					words[i] = 1<<31 + uint64(c.draw(3)) - 1
				case 3:
					words[i] = api.Alive + uint64(c.draw(6))
				case 4, 5:
					words[i] = uint64(c.draw(18))
				case 6:
					words[i] = 1<<63 + uint64(c.draw(60))
				default:
					words[i] = uint64(c.draw(2 * len(words)))
				}
			}
			v := view.Whole(words, c.draw(api.MaxWrites+1))
			v.Open()
			got := ask(k, v, api.Roots+c.draw(2), c.draw(k.ops), c.key(40), c.key(40))
			if got.err == -1 || got.err == api.ErrNeed || got.err != api.OK && (len(got.cells) > 0 || len(got.frees) > 0 || got.text != "") {
				t.Fatal(k.name, got)
			}
		}
	}
}

// R2: lists that are told are new memory: what one does to them changes nothing.
func told(v any) string { return fmt.Sprint(v) }
