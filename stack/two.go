package stack

import (
	"slices"

	"wringing/api"
)

// Two returns two stacks that can be made at once.
func Two(box []api.Block, a, b api.Want) ([]int, []int, api.Errno) {
	if e := check(box, a, b); e != api.OK {
		return nil, nil, e
	}
	if len(box) > api.MaxPair {
		return nil, nil, api.ErrLimit
	}
	ones, others := newTask(box, a), newTask(box, b)
	one, other := pair(slices.SortedFunc(ones.good(), ones.compare), slices.SortedFunc(others.good(), others.compare))
	if one == 0 {
		return nil, nil, api.ErrNone
	}
	return ones.ids(one), others.ids(other), api.OK
}

// pair returns the best pair of stacks of two lists, both in the order of stacks, that have no block in common; empty sets if there is none.
func pair(ones, others []set) (one, other set) {
	fewest := api.MaxBox + 1
choice:
	for _, a := range ones {
		for _, b := range others {
			count := a.count() + b.count()
			if count >= fewest {
				continue choice
			}
			if a&b == 0 {
				one, other, fewest = a, b, count
				continue choice
			}
		}
	}
	return one, other
}
