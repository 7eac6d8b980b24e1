package objects

import (
	"maps"
	"slices"

	"quietus/api"
	tables "quietus/table"
	"quietus/view"
)

var table = kind{"table", 5, func(v *view.View, root, op int, k, x uint64) (string, api.Errno) {
	var answer any
	var err api.Errno
	switch op {
	case 0:
		answer, err = tables.Put(v, root, k, x)
	case 1:
		answer, err = tables.Del(v, root, k)
	case 2:
		answer, err = found(tables.Get(v, root, k))
	case 3:
		answer, err = tables.Len(v, root)
	case 4:
		answer, err = tables.All(v, root)
	}
	return tell(answer, err)
}, func() model { return pairs{} }}

// found joins what a look-up tells.
func found(x uint64, ok bool, err api.Errno) (any, api.Errno) {
	if (!ok || err != api.OK) && x != 0 || ok && err != api.OK {
		return "something of nothing", err
	}
	if !ok {
		return "", err
	}
	return x, err
}

type pairs map[uint64]uint64

func (p pairs) size() int { return len(p) }

func (p pairs) do(op int, k, x uint64) string {
	old, there := p[k]
	switch op {
	case 0:
		p[k] = x
		return told(!there)
	case 1:
		delete(p, k)
	case 2:
		if !there {
			return ""
		}
		return told(old)
	case 3:
		return told(len(p))
	case 4:
		return told(p.from(0, 1<<64-1))
	}
	return told(there)
}

func (p pairs) from(lo, hi uint64) []api.Pair {
	all := []api.Pair{}
	for _, k := range slices.Sorted(maps.Keys(p)) {
		if k >= lo && k <= hi {
			all = append(all, api.Pair{Key: k, Val: p[k]})
		}
	}
	return all
}
