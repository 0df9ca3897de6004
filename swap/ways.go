package swap

import (
	"cmp"
	"iter"
	"slices"

	"wringing/api"
)

// row is labels that can be compared as a whole; the places behind the last label are 0.
type row [api.MaxLabels]int

// Ways returns all ways in which labels can have been exchanged.
func Ways(m api.Mixed) ([][][]int, api.Errno) {
	if e := Check(m); e != api.OK {
		return nil, e
	}
	return waysOf(m.Mixes), api.OK
}

// Weight returns how many labels a way moves.
func Weight(m api.Mixed, way [][]int) (int, api.Errno) {
	if e := checkWay(m, way); e != api.OK {
		return 0, e
	}
	return weight(m.Mixes, way), api.OK
}

// waysOf returns the ways of some mix-ups, in their order.
func waysOf(mixes []api.Mix) [][][]int {
	ways := slices.Collect(exchanges(mixes))
	// Ways of one weight stay in the order of their lists.
	slices.SortStableFunc(ways, func(a, b [][]int) int { return cmp.Compare(weight(mixes, a), weight(mixes, b)) })
	return ways
}

// exchanges yields the ways of some mix-ups, in the order of their lists.
func exchanges(mixes []api.Mix) iter.Seq[[][]int] {
	return func(yield func([][]int) bool) {
		if len(mixes) == 0 {
			yield(nil)
			return
		}
		for list := range orders(mixes[0].Labels) {
			for rest := range exchanges(mixes[1:]) {
				if !yield(slices.Concat([][]int{slices.Clone(list)}, rest)) {
					return
				}
			}
		}
	}
}

// orders yields all lists that have each of some labels once, in the order of lists.
func orders(labels []int) iter.Seq[[]int] {
	return func(yield func([]int) bool) {
		if len(labels) == 0 {
			yield(nil)
			return
		}
		for i, label := range labels {
			for rest := range orders(slices.Concat(labels[:i], labels[i+1:])) {
				if !yield(slices.Concat([]int{label}, rest)) {
					return
				}
			}
		}
	}
}

func weight(mixes []api.Mix, way [][]int) int {
	moved := 0
	for i, x := range mixes {
		for place, label := range x.Labels {
			if way[i][place] != label {
				moved++
			}
		}
	}
	return moved
}

func isWay(mixes []api.Mix, way [][]int) bool {
	return slices.EqualFunc(mixes, way, func(x api.Mix, list []int) bool {
		// The labels increase, so a list has each of them once if it is the same when it is sorted.
		return len(list) == len(x.Labels) && sorted(list) == rowOf(x.Labels)
	})
}

func rowOf(labels []int) row {
	var r row
	copy(r[:], labels)
	return r
}

func sorted(labels []int) row {
	r := rowOf(labels)
	slices.Sort(r[:len(labels)])
	return r
}

// first returns the first one of some things about which something is true.
func first[T any](things iter.Seq[T], is func(T) bool) (T, bool) {
	for x := range things {
		if is(x) {
			return x, true
		}
	}
	var none T
	return none, false
}
