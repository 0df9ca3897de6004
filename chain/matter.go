package chain

import (
	"slices"

	"wringing/api"
)

// Slack returns by how much a link could be tighter.
func Slack(s api.System, which int) (int, api.Errno) {
	if e, _ := Check(s); e != api.OK {
		return 0, e
	}
	if !isIndex(which, len(s.Links)) {
		return 0, api.ErrArg
	}
	l := s.Links[which]
	back, e := Bound(s, l.To, l.From)
	if e != api.OK {
		return 0, e
	}
	return back + l.Most, api.OK
}

// Suspects returns the links without each of which alone there is a solution.
func Suspects(s api.System) ([]int, api.Errno) {
	if e, _ := Check(s); e != api.OK {
		return nil, e
	}
	g := newGraph(s)
	if g.consistent() {
		return nil, api.OK
	}
	var suspects []int
	// Without a link that it does not have, a clash stays.
	for _, i := range slices.Sorted(slices.Values(g.clash())) {
		if !g.hasTwin(i) && g.solvableWithout(i) {
			suspects = append(suspects, i)
		}
	}
	return suspects, api.OK
}

// Idle returns the links without each of which alone all bounds stay.
func Idle(s api.System) ([]int, api.Errno) {
	g, e := open(s)
	if e != api.OK {
		return nil, e
	}
	var idle []int
	for i := range g.links {
		if g.spares(i) {
			idle = append(idle, i)
		}
	}
	return idle, api.OK
}

// Reduce returns links that alone have all bounds.
func Reduce(s api.System) ([]int, api.Errno) {
	g, e := open(s)
	if e != api.OK {
		return nil, e
	}
	for i := range slices.Backward(g.links) {
		if g.spares(i) {
			g.dropped[i] = true
		}
	}
	var left []int
	for i, dropped := range g.dropped {
		if !dropped {
			left = append(left, i)
		}
	}
	return left, api.OK
}

// hasTwin reports whether a link is left that says the same: then nothing changes without the one.
func (g *graph) hasTwin(which int) bool {
	for i, l := range g.links {
		if i != which && !g.dropped[i] && l == g.links[which] {
			return true
		}
	}
	return false
}

func (g *graph) solvableWithout(which int) bool {
	g.dropped[which] = true
	solvable := g.consistent()
	g.dropped[which] = false
	return solvable
}

// spares reports whether all bounds of a consistent system stay without a link: then a chain of others takes its place in each chain.
func (g *graph) spares(which int) bool {
	if g.hasTwin(which) {
		return true
	}
	l := g.links[which]
	g.dropped[which] = true
	bound := g.boundsTo(l.To)[l.From]
	g.dropped[which] = false
	return bound <= l.Most
}
