package stack

import (
	"cmp"
	"iter"
	"math/bits"
	"slices"

	"wringing/api"
)

// set is a set of the blocks of a box: the block with the index k is in it if the bit k is set.
type set uint

// part is a part of a box. Its sets are written as numbers; each one has its weight at its index.
type part struct {
	weights []int
	sets    []int // in the order of their weights
}

// task is a want, with the box that its stacks are made of. A stack is put together from a set of the first part of the box and one of the rest: so there are few sets to go through, and of the others those that fit are found by their weights.
type task struct {
	box         []api.Block
	want        api.Want
	first, rest part
}

// open returns the task of a box and a want, if they are valid.
func open(box []api.Block, w api.Want) (task, api.Errno) {
	if e := check(box, w); e != api.OK {
		return task{}, e
	}
	return newTask(box, w), api.OK
}

func newTask(box []api.Block, w api.Want) task {
	first, rest := halve(box)
	return task{box, w, newPart(first, w.Film), newPart(rest, w.Film)}
}

// halve returns the first part of a box, and the rest.
func halve(box []api.Block) (first, rest []api.Block) {
	n := min(len(box), api.MaxHalf)
	return box[:n], box[n:]
}

func newPart(blocks []api.Block, film int) part {
	p := part{weights: weigh(blocks, film)}
	for number := range p.weights {
		p.sets = append(p.sets, number)
	}
	slices.SortFunc(p.sets, func(a, b int) int {
		return cmp.Or(cmp.Compare(p.weights[a], p.weights[b]), cmp.Compare(a, b))
	})
	return p
}

// weigh returns the weights of all sets of some blocks, each one at the number of its set.
func weigh(blocks []api.Block, film int) []int {
	weights := []int{0}
	for _, b := range blocks {
		// The sets with this block are numbered like those without it, behind them.
		for _, weight := range weights {
			weights = append(weights, weight+b.Len+film)
		}
	}
	return weights
}

// good goes through all good stacks, not in the order of stacks.
func (t task) good() iter.Seq[set] {
	return func(yield func(set) bool) {
		for _, a := range t.first.sets {
			for _, b := range t.partners(a) {
				if !yield(join(a, b)) {
					return
				}
			}
		}
	}
}

// possible reports whether there is a good stack.
func (t task) possible() bool {
	for range t.good() {
		return true
	}
	return false
}

// partners returns the sets of the rest that make a good stack with a set of the first part.
func (t task) partners(a int) []int {
	others, missing := t.others(a), t.missing(a)
	short := t.lighter(others, missing-t.want.Tol)
	notLong := t.lighter(others, missing+t.want.Tol+1)
	return others[short:notLong]
}

// others returns the sets of the rest that make any stack with a set of the first part. Two empty sets make none; the empty set is the lightest one.
func (t task) others(a int) []int {
	if a == 0 {
		return t.rest.sets[1:]
	}
	return t.rest.sets
}

// missing returns what a set of the rest has to weigh to make exactly the wanted length with a set of the first part. A stack has a film less than blocks.
func (t task) missing(a int) int { return t.want.Len + t.want.Film - t.first.weights[a] }

// lighter returns how many of some sets of the rest, in the order of their weights, weigh less than a number.
func (t task) lighter(sets []int, than int) int {
	return search(sets, func(b int) bool { return t.rest.weights[b] < than })
}

// compare tells which of two stacks comes first: of two with the same number of blocks, the one that has the least block that only one of them has.
func (t task) compare(a, b set) int {
	if c := cmp.Compare(a.count(), b.count()); c != 0 {
		return c
	}
	for i := range t.box {
		if a.has(i) != b.has(i) {
			if a.has(i) {
				return -1
			}
			return 1
		}
	}
	return 0
}

// ids returns the IDs of the blocks of a set.
func (t task) ids(s set) []int {
	var ids []int
	for i, b := range t.box {
		if s.has(i) {
			ids = append(ids, b.ID)
		}
	}
	return ids
}

// join returns the set of a box that a set of its first part and one of the rest are together.
func join(first, rest int) set { return set(first) | set(rest)<<api.MaxHalf }

func (s set) has(i int) bool { return s>>i&1 == 1 }

func (s set) count() int { return bits.OnesCount(uint(s)) }

// search returns how many elements of a list fulfil a condition, where those that do come ahead of the others.
func search[T any](list []T, fulfils func(T) bool) int {
	low, high := 0, len(list)
	for low < high {
		middle := (low + high) / 2
		if fulfils(list[middle]) {
			low = middle + 1
		} else {
			high = middle
		}
	}
	return low
}

// earliest returns the element of a sequence that comes ahead of all others, if it has any.
func earliest[T any](all iter.Seq[T], compare func(a, b T) int) (T, bool) {
	var best T
	found := false
	for x := range all {
		if !found || compare(x, best) < 0 {
			best, found = x, true
		}
	}
	return best, found
}
