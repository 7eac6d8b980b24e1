package interp

import (
	"quietus/api"
)

// begin opens the part that an instruction begins.
func (x *Interp) begin(at int) api.Errno {
	if err := x.view.Open(); err != api.OK {
		return err
	}
	x.open = append(x.open, mark{at: at, regs: x.regs, emits: x.slate.Len()})
	return api.OK
}

// keep ends the inmost part.
func (x *Interp) keep() api.Errno {
	x.leave()
	return x.view.Keep()
}

// undo ends the inmost part as if it had not been.
func (x *Interp) undo() api.Errno {
	x.restore(x.leave())
	return x.view.Drop()
}

// retry goes to the second way of the inmost either that is in its first one.
func (x *Interp) retry() (int, api.Errno) {
	for len(x.open) > 0 {
		m := x.leave()
		if err := x.view.Drop(); err != api.OK {
			return 0, err
		}
		if x.prog[m.at].Op == api.IEither {
			x.restore(m)
			or := x.match[m.at]
			return or + 1, x.begin(or)
		}
	}
	return stuck, api.OK
}

// leave answers the mark of the inmost part, which is open no more.
func (x *Interp) leave() mark {
	last := len(x.open) - 1
	m := x.open[last]
	x.open = x.open[:last]
	return m
}

func (x *Interp) restore(m mark) {
	x.regs = m.regs
	x.slate.Cut(m.emits)
}
