package objects

import (
	"maps"
	"slices"

	"quietus/api"
	lists "quietus/list"
	"quietus/view"
)

var list = kind{"list", 4, func(v *view.View, root, op int, k, x uint64) (string, api.Errno) {
	var answer any
	var err api.Errno
	switch op {
	case 0:
		answer, err = lists.Add(v, root, k)
	case 1:
		answer, err = lists.Cut(v, root, k)
	case 2:
		answer, err = lists.Has(v, root, k)
	case 3:
		answer, err = lists.All(v, root)
	}
	return tell(answer, err)
}, func() model { return set{} }}

// tell writes an answer; beside an error it must be the zero value, told as the empty text.
func tell(answer any, err api.Errno) (string, api.Errno) {
	text := told(answer)
	if err != api.OK && (text == "false" || text == "0" || text == "[]") {
		text = ""
	}
	return text, err
}

type set map[uint64]bool

func (s set) size() int { return len(s) }

func (s set) do(op int, k, x uint64) string {
	there := s[k]
	switch op {
	case 0:
		s[k] = true
		return told(!there)
	case 1:
		delete(s, k)
	case 3:
		return told(append([]uint64{}, slices.Sorted(maps.Keys(s))...))
	}
	return told(there)
}
