package sharp

import (
	"slices"

	"wringing/api"
	"wringing/chain"
	"wringing/compare"
)

// sides are two piles on a day, by the indices of their nodes.
type sides struct {
	bounds [][]int // of all nodes
	film   api.Span
	x, y   []int
}

// Pile returns how long a pile can be.
func Pile(b api.Book, day int, ids []int) (api.Span, api.Errno) {
	if e := compare.Check(b); e != api.OK {
		return api.Span{}, e
	}
	if !isDay(day) || len(ids) == 0 || !arePiles(ids, nil) {
		return api.Span{}, api.ErrArg
	}
	return difference(b, day, ids, nil)
}

// Differ returns by how much one pile can be longer than another one.
func Differ(b api.Book, day int, x, y []int) (api.Span, api.Errno) {
	if e := compare.Check(b); e != api.OK {
		return api.Span{}, e
	}
	none := len(x) == 0 && len(y) == 0
	if !isDay(day) || none || len(x) > api.MaxSide || len(y) > api.MaxSide || !arePiles(x, y) {
		return api.Span{}, api.ErrArg
	}
	return difference(b, day, x, y)
}

func isDay(day int) bool { return day >= 0 && day <= api.MaxDay }

// arePiles reports whether two lists are piles without a common gauge.
func arePiles(x, y []int) bool {
	a, b, e := compare.Cancel(x, y)
	return e == api.OK && len(a) == len(x) && len(b) == len(y)
}

// difference returns by how much one pile can be longer than another one that has none of its gauges.
func difference(b api.Book, day int, x, y []int) (api.Span, api.Errno) {
	first, second := nodesOf(x, day), nodesOf(y, day)
	s, e := open(b, slices.Concat(first, second)...)
	if e != api.OK {
		return api.Span{}, e
	}
	bounds, _ := chain.Tight(s.system)
	piles := sides{bounds: bounds, film: b.Film, x: s.indices(first), y: s.indices(second)}
	return spanOf(piles.least, piles.most), api.OK
}

// nodesOf returns the nodes of some gauges on a day.
func nodesOf(ids []int, day int) []api.Node {
	var nodes []api.Node
	for _, id := range ids {
		nodes = append(nodes, api.Node{Gauge: id, Day: day})
	}
	return nodes
}

func (s sight) indices(nodes []api.Node) []int {
	var places []int
	for _, n := range nodes {
		places = append(places, s.index(n))
	}
	return places
}

// most returns the greatest length of the one pile less that of the other one.
func (p sides) most() int {
	return p.gauges() + films(p.x)*p.film.Hi - films(p.y)*p.film.Lo
}

func (p sides) least() int { return -sides{p.bounds, p.film, p.y, p.x}.most() }

// films returns how many films a pile has.
func films(pile []int) int { return max(0, len(pile)-1) }

// gauges returns the greatest sum of the one side less that of the other one. Nothing implies less of it than chains that lead to each gauge of the one side, and from each of the other one, where each chain is between two of them, or between one and the node 0: flows and differences are dual, and both are integers.
func (p sides) gauges() int {
	matched := make([]bool, len(p.y))
	var match func(x []int) int
	match = func(x []int) int {
		if len(x) == 0 {
			return p.unmatched(matched)
		}
		least := p.bounds[0][x[0]] + match(x[1:])
		for i, y := range p.y {
			if matched[i] {
				continue
			}
			matched[i] = true
			rest := match(x[1:])
			matched[i] = false
			least = min(least, p.bounds[y][x[0]]+rest)
		}
		return least
	}
	return match(p.x)
}

// unmatched returns the sum of the chains to the node 0, from the gauges of the other side that are not matched.
func (p sides) unmatched(matched []bool) int {
	sum := 0
	for i, y := range p.y {
		if !matched[i] {
			sum += p.bounds[y][0]
		}
	}
	return sum
}
