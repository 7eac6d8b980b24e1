package objects

import (
	"quietus/api"
	queues "quietus/queue"
	"quietus/view"
)

var queue = kind{"queue", 3, func(v *view.View, root, op int, k, x uint64) (string, api.Errno) {
	var answer any
	var err api.Errno
	switch op {
	case 0:
		answer, err = "", queues.Push(v, root, k)
	case 1:
		answer, err = found(queues.Take(v, root))
	case 2:
		answer, err = queues.All(v, root)
	}
	return tell(answer, err)
}, func() model { return &row{} }}

type row []uint64

func (r *row) size() int { return len(*r) }

func (r *row) do(op int, k, x uint64) string {
	switch op {
	case 0:
		*r = append(*r, k)
	case 1:
		if len(*r) > 0 {
			first := (*r)[0]
			*r = (*r)[1:]
			return told(first)
		}
	case 2:
		return told([]uint64(*r))
	}
	return ""
}
