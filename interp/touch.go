package interp

import (
	"quietus/api"
	"quietus/arena"
	"quietus/list"
	"quietus/queue"
	"quietus/slate"
	"quietus/table"
	"quietus/tree"
)

// far is the least word that can be no place and no size.
const far = 1 << 31

// touch does what asks the view.
func (x *Interp) touch(ins api.Ins) api.Errno {
	switch ins.Op {
	case api.ILoad:
		at, err := place(x.regs[ins.B], ins.C)
		if err != api.OK {
			return err
		}
		w, err := x.view.Read(at)
		return x.put(ins.A, w, err)
	case api.IStore:
		at, err := place(x.regs[ins.A], ins.C)
		if err != api.OK {
			return err
		}
		return x.view.Write(at, x.regs[ins.B])
	case api.IAlloc:
		if x.regs[ins.B] >= far {
			return api.ErrSize
		}
		block, err := arena.Alloc(x.view, int(x.regs[ins.B]))
		return x.put(ins.A, uint64(block), err)
	}
	if x.regs[ins.A] >= far {
		return api.ErrAddr
	}
	return arena.Free(x.view, int(x.regs[ins.A]))
}

// put makes w a register's word, if there was no error.
func (x *Interp) put(reg int, w uint64, err api.Errno) api.Errno {
	if err == api.OK {
		x.regs[reg] = w
	}
	return err
}

// place answers the place of a load or a store.
func place(base uint64, offset int) (int, api.Errno) {
	// Asked ahead of the sum, which could go round.
	if base >= far {
		return 0, api.ErrAddr
	}
	at := int(base) + offset
	if at < api.Roots || at >= far {
		return 0, api.ErrAddr
	}
	return at, api.OK
}

// call calls an object, and tells what it told.
func (x *Interp) call(ins api.Ins) (int, api.Errno) {
	told := slate.New()
	err := x.ask(told, ins.A, api.Roots+ins.B, x.regs[ins.C], x.regs[ins.C+1])
	if err != api.OK {
		return 0, err
	}
	if told.Len() == 0 {
		return x.retry()
	}
	if !x.tell(told) {
		return 0, api.ErrLog
	}
	if ins.A != api.CPush {
		x.regs[ins.C] = word(told)
	}
	return x.place + 1, api.OK
}

// ask adds what a call tells to told: nothing at all, if it must wait.
func (x *Interp) ask(told *slate.Slate, which, root int, k, y uint64) api.Errno {
	switch which {
	case api.CPut, api.CGet, api.CDel:
		return x.askTable(told, which, root, k, y)
	case api.CPush, api.CTake:
		return x.askQueue(told, which, root, k)
	case api.CSet, api.CFind, api.CErase, api.CCount:
		return x.askTree(told, which, root, k, y)
	}
	return x.askList(told, which, root, k)
}

func (x *Interp) askList(told *slate.Slate, which, root int, k uint64) api.Errno {
	var did bool
	var err api.Errno
	switch which {
	case api.CAdd:
		did, err = list.Add(x.view, root, k)
	case api.CCut:
		did, err = list.Cut(x.view, root, k)
	default:
		did, err = list.Has(x.view, root, k)
	}
	told.AddTruth(did)
	return err
}

func (x *Interp) askTable(told *slate.Slate, which, root int, k, y uint64) api.Errno {
	if which == api.CGet {
		n, there, err := table.Get(x.view, root, k)
		found(told, n, there)
		return err
	}
	var did bool
	var err api.Errno
	if which == api.CPut {
		did, err = table.Put(x.view, root, k, y)
	} else {
		did, err = table.Del(x.view, root, k)
	}
	told.AddTruth(did)
	return err
}

func (x *Interp) askQueue(told *slate.Slate, which, root int, k uint64) api.Errno {
	if which == api.CPush {
		told.AddNone()
		return queue.Push(x.view, root, k)
	}
	n, there, err := queue.Take(x.view, root)
	if there {
		told.AddNum(n)
	}
	return err
}

func (x *Interp) askTree(told *slate.Slate, which, root int, k, y uint64) api.Errno {
	var did bool
	var err api.Errno
	switch which {
	case api.CFind:
		n, there, err := tree.Get(x.view, root, k)
		found(told, n, there)
		return err
	case api.CCount:
		pairs, err := tree.Range(x.view, root, k, y)
		told.AddNum(uint64(len(pairs)))
		return err
	case api.CSet:
		did, err = tree.Put(x.view, root, k, y)
	default:
		did, err = tree.Del(x.view, root, k)
	}
	told.AddTruth(did)
	return err
}

// found tells what a look-up found.
func found(told *slate.Slate, n uint64, there bool) {
	if there {
		told.AddNum(n)
	} else {
		told.AddNone()
	}
}

// tell adds the one result of told to the slate.
func (x *Interp) tell(told *slate.Slate) bool {
	if n, ok := told.Num(0); ok {
		return x.slate.AddNum(n)
	}
	if b, ok := told.Truth(0); ok {
		return x.slate.AddTruth(b)
	}
	return x.slate.AddNone()
}

// word answers the one result of told as a register has it.
func word(told *slate.Slate) uint64 {
	if n, ok := told.Num(0); ok {
		return n
	}
	b, _ := told.Truth(0)
	return truth(b)
}
