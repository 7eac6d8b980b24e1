// Package draft holds back what a call on an object does to a view till all
// of it can be done, so that a call that errs, or needs a word, has done nothing.
package draft

import (
	"quietus/api"
	"quietus/arena"
	"quietus/view"
)

// far is the least word that can be no place.
const far = 1 << 31

// most is how often one call reads at the most: far more than an object in a
// heap of MaxWords asks for, so that words that are no object come to an end.
const most = 16 * api.MaxWords

// Draft reads a view, and writes one of its own. The first error stays:
// behind it 0 is read, and nothing is done.
type Draft struct {
	under *view.View
	own   *view.View
	reads int
	err   api.Errno
}

// New begins a call on the object at root.
func New(v *view.View, root int) *Draft {
	d := &Draft{under: v, own: view.New(v.Size(), api.MaxWrites)}
	if root < api.Roots || root >= api.Roots+api.MaxRoots {
		d.err = api.ErrAddr
	}
	return d
}

// Fail says that the words are no object.
func (d *Draft) Fail() { d.fail(api.ErrAddr) }

// Failed tells whether there was an error.
func (d *Draft) Failed() bool { return d.err != api.OK }

// Read answers the word at a place.
func (d *Draft) Read(at uint64) uint64 {
	d.reads++
	if at >= far || d.reads > most {
		d.Fail()
	}
	if d.Failed() {
		return 0
	}
	x, err := d.own.Read(int(at))
	if err == api.ErrNeed {
		x, err = d.learn(int(at))
	}
	d.fail(err)
	return x
}

// Write makes x the word at a place, if it isn't known to be x.
func (d *Draft) Write(at, x uint64) {
	if at >= far {
		d.Fail()
	}
	if d.Failed() {
		return
	}
	if was, err := d.own.Read(int(at)); err == api.OK && was == x {
		return
	}
	d.fail(d.own.Write(int(at), x))
}

// Alloc takes a block of n words.
func (d *Draft) Alloc(n int) uint64 {
	for !d.Failed() {
		block, err := arena.Alloc(d.own, n)
		if d.again(err) {
			continue
		}
		d.fail(err)
		return uint64(block)
	}
	return 0
}

// Free frees a block.
func (d *Draft) Free(block uint64) {
	if block >= far {
		d.Fail()
	}
	for !d.Failed() {
		err := arena.Free(d.own, int(block))
		if d.again(err) {
			continue
		}
		d.fail(err)
		return
	}
}

// Finish does all that was held back, or answers the error.
func (d *Draft) Finish() api.Errno {
	if d.Failed() {
		return d.err
	}
	if err := d.under.Take(d.own.Cells()); err != api.OK {
		return err
	}
	for _, block := range d.own.Frees() {
		d.under.Free(block)
	}
	return api.OK
}

// Tell finishes a call that answers a truth: with an error it is false.
func (d *Draft) Tell(answer bool) (bool, api.Errno) {
	err := d.Finish()
	return answer && err == api.OK, err
}

// again tells whether a call of the arena, which needed a word, can be made again.
func (d *Draft) again(err api.Errno) bool {
	if err != api.ErrNeed {
		return false
	}
	_, err = d.learn(d.own.Need())
	d.fail(err)
	return true
}

// learn reads a word of the view.
func (d *Draft) learn(at int) (uint64, api.Errno) {
	x, err := d.under.Read(at)
	if err != api.OK {
		return 0, err
	}
	return x, d.own.Know(at, x)
}

func (d *Draft) fail(err api.Errno) {
	if d.err == api.OK {
		d.err = err
	}
}
