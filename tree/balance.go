package tree

// insert takes a red block for k, which isn't there, where the way ends.
func (t *tree) insert(k, x uint64) {
	block := t.Alloc(words)
	t.set(block, key, k)
	t.set(block, val, x)
	t.set(block, links, 1)
	t.set(block, links+1, 0)
	t.hang(len(t.way), block)
	t.mendRed(len(t.way) - 1)
}

// mendRed mends that a red block stands under the one of the way's step i, which may be red.
func (t *tree) mendRed(i int) {
	for i >= 1 && t.red(t.way[i].block) {
		above, from := t.way[i-1].block, t.way[i-1].to
		uncle := t.child(above, from.other())
		if !t.red(uncle) {
			t.turnRed(i, from)
			return
		}
		t.paint(t.way[i].block, false)
		t.paint(uncle, false)
		t.paint(above, true)
		i -= 2
	}
	if i < 1 {
		t.paint(t.top(), false)
	}
}

// turnRed turns the red block of step i, and its red child, above the block of step i - 1.
func (t *tree) turnRed(i int, from side) {
	above := t.way[i-1].block
	if t.way[i].to != from {
		t.setChild(above, from, t.turn(t.way[i].block, from.other()))
	}
	up := t.turn(above, from)
	t.paint(up, false)
	t.paint(above, true)
	t.hang(i-1, up)
}

// remove takes out a block, to which the way leads.
func (t *tree) remove(block uint64) {
	if t.child(block, left) != 0 && t.child(block, right) != 0 {
		block = t.swap(block)
	}
	child := t.child(block, left)
	if child == 0 {
		child = t.child(block, right)
	}
	black := !t.red(block)
	t.hang(len(t.way), child)
	t.Free(block)
	if black {
		t.mendBlack(child, len(t.way)-1)
	}
}

// swap moves the next greater key into a block, and answers the block that
// had it: it has no left child, and the way leads to it.
func (t *tree) swap(block uint64) uint64 {
	t.way = append(t.way, step{block, right})
	next := t.child(block, right)
	for down := t.child(next, left); down != 0; down = t.child(next, left) {
		t.way = append(t.way, step{next, left})
		next = down
	}
	t.set(block, key, t.key(next))
	t.set(block, val, t.val(next))
	return next
}

// mendBlack mends that a black block lacks on the ways through block, which
// is where the way leads to from its step i.
func (t *tree) mendBlack(block uint64, i int) {
	for ; i >= 0 && !t.red(block) && !t.Failed(); i-- {
		above, to := t.way[i].block, t.way[i].to
		far := t.child(above, to.other())
		if t.red(far) {
			i = t.turnFar(i)
			far = t.child(above, to.other())
		}
		if t.red(t.child(far, left)) || t.red(t.child(far, right)) {
			t.lend(i, far)
			return
		}
		t.paint(far, true)
		block = above
	}
	if block != 0 {
		t.paint(block, false)
	}
}

// turnFar turns the red block on the far side of step i above that step, which
// becomes step i + 1: it answers that.
func (t *tree) turnFar(i int) int {
	s := t.way[i]
	up := t.turn(s.block, s.to.other())
	t.paint(up, false)
	t.paint(s.block, true)
	t.hang(i, up)
	t.way = append(t.way[:i], step{up, s.to}, s)
	return i + 1
}

// lend brings a black block over from the far side of step i, where far has a red child.
func (t *tree) lend(i int, far uint64) {
	above, to := t.way[i].block, t.way[i].to
	if !t.red(t.child(far, to.other())) {
		t.setChild(above, to.other(), t.turn(far, to))
	}
	red := t.red(above)
	up := t.turn(above, to.other())
	t.paint(up, red)
	t.paint(above, false)
	t.paint(t.child(up, to.other()), false)
	t.hang(i, up)
}
