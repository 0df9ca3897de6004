package chain

import (
	"slices"

	"wringing/api"
)

// Bound returns the greatest difference of two values.
func Bound(s api.System, from, to int) (int, api.Errno) {
	g, e := open(s, from, to)
	if e != api.OK {
		return 0, e
	}
	bound := g.boundsTo(to)[from]
	if bound == api.Free {
		return 0, api.ErrNone
	}
	return bound, api.OK
}

// Tight returns all bounds.
func Tight(s api.System) ([][]int, api.Errno) {
	g, e := open(s)
	if e != api.OK {
		return nil, e
	}
	bounds := make([][]int, s.Nodes)
	for from := range bounds {
		bounds[from] = make([]int, s.Nodes)
	}
	for to := range bounds {
		for from, bound := range g.boundsTo(to) {
			bounds[from][to] = bound
		}
	}
	return bounds, api.OK
}

// Spans returns the span of each value.
func Spans(s api.System) ([]api.Span, api.Errno) {
	lower, e := leastValues(s)
	if e != api.OK {
		return nil, e
	}
	upper, _ := greatestValues(s)
	spans := make([]api.Span, s.Nodes)
	for node := range spans {
		spans[node] = api.Span{Lo: lower[node], Hi: upper[node]}
	}
	return spans, api.OK
}

// Greatest returns the greatest solution.
func Greatest(s api.System) ([]int, api.Errno) {
	x, e := greatestValues(s)
	return whereBound(x, api.Free, e)
}

// Least returns the least solution.
func Least(s api.System) ([]int, api.Errno) {
	x, e := leastValues(s)
	return whereBound(x, -api.Free, e)
}

// Reach returns a solution in which a bound is reached.
func Reach(s api.System, from, to int) ([]int, api.Errno) {
	g, e := open(s, from, to)
	if e != api.OK {
		return nil, e
	}
	bounds := g.boundsTo(to)
	if bounds[from] == api.Free {
		return nil, api.ErrNone
	}
	// Of two lists of levels the lesser ones are levels, too, and so are levels that are raised alike. The bounds are such a list where there are any; the others are filled up with levels that are raised so far that those of from and to stay.
	levels, _ := g.levels()
	raise := max(-levels[to], bounds[from]-levels[from])
	for node, level := range levels {
		levels[node] = min(bounds[node], level+raise)
	}
	x := make([]int, s.Nodes)
	for node, level := range levels {
		x[node] = levels[0] - level
	}
	return x, api.OK
}

// leastValues returns the least value of each node, or -api.Free.
func leastValues(s api.System) ([]int, api.Errno) {
	g, e := open(s)
	if e != api.OK {
		return nil, e
	}
	return opposites(g.boundsTo(0)), api.OK
}

// greatestValues returns the greatest value of each node, or api.Free: if all links are turned round, all values get the opposite signs.
func greatestValues(s api.System) ([]int, api.Errno) {
	if e, _ := Check(s); e != api.OK {
		return nil, e
	}
	x, e := leastValues(turned(s))
	return opposites(x), e
}

// whereBound returns the values that it is given, unless one stands for: no bound.
func whereBound(x []int, free int, e api.Errno) ([]int, api.Errno) {
	if e != api.OK {
		return nil, e
	}
	if slices.Contains(x, free) {
		return nil, api.ErrNone
	}
	return x, api.OK
}

// opposites gives all elements of a list the opposite sign, in place.
func opposites(x []int) []int {
	for i := range x {
		x[i] = -x[i]
	}
	return x
}
