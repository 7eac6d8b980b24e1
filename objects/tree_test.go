package objects

import (
	"quietus/api"
	trees "quietus/tree"
	"quietus/view"
)

var tree = kind{"tree", 5, func(v *view.View, root, op int, k, x uint64) (string, api.Errno) {
	var answer any
	var err api.Errno
	switch op {
	case 0:
		answer, err = trees.Put(v, root, k, x)
	case 1:
		answer, err = trees.Del(v, root, k)
	case 2:
		answer, err = found(trees.Get(v, root, k))
	case 3:
		// How deep a tree of so many keys is isn't told of a map: so tell how many.
		var deep int
		if deep, err = trees.Deep(v, root); err != api.OK {
			return tell(deep, err)
		}
		var all []api.Pair
		if all, err = trees.Range(v, root, 0, 1<<64-1); err != api.OK {
			return tell(all, err)
		}
		answer = len(all)
		if (deep == 0) != (len(all) == 0) {
			answer = "deep"
		}
	case 4:
		answer, err = trees.Range(v, root, k, x<<60)
	}
	return tell(answer, err)
}, func() model { return sorted{pairs{}} }}

// sorted is pairs, but for the last call.
type sorted struct{ pairs }

func (s sorted) do(op int, k, x uint64) string {
	if op == 4 {
		return told(s.from(k, x<<60))
	}
	return s.pairs.do(op, k, x)
}
