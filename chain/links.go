package chain

import (
	"slices"

	"wringing/api"
)

// leastSums tells the least sum of the chains of exactly that many links from each node to a certain one, or api.Free.
type leastSums func(links int) []int

// Clash returns a shortest closed chain that forbids a solution.
func Clash(s api.System) ([]int, api.Errno) {
	if e, _ := Check(s); e != api.OK {
		return nil, e
	}
	g := newGraph(s)
	if g.consistent() {
		return nil, api.ErrNone
	}
	return g.clash(), api.OK
}

// CheckClash checks such a chain.
func CheckClash(s api.System, l []int) api.Errno {
	if e, _ := Check(s); e != api.OK {
		return e
	}
	if e := checkIndices(s, l); e != api.OK {
		return e
	}
	if len(l) == 0 {
		return api.ErrProof
	}
	start := s.Links[l[0]].From
	sum, ok := follow(s, start, start, l)
	if !ok || sum >= 0 {
		return api.ErrProof
	}
	return api.OK
}

// Chain returns a shortest chain that proves a bound.
func Chain(s api.System, from, to int) ([]int, api.Errno) {
	g, e := open(s, from, to)
	if e != api.OK {
		return nil, e
	}
	bound := g.boundsTo(to)[from]
	if bound == api.Free {
		return nil, api.ErrNone
	}
	sums := g.sumsTo(to)
	links := 0
	for sums(links)[from] != bound {
		links++
	}
	return g.firstChain(from, links, bound, sums), api.OK
}

// CheckChain returns the sum of a chain.
func CheckChain(s api.System, from, to int, l []int) (int, api.Errno) {
	if e, _ := Check(s); e != api.OK {
		return 0, e
	}
	if !isIndex(from, s.Nodes) || !isIndex(to, s.Nodes) {
		return 0, api.ErrArg
	}
	if e := checkIndices(s, l); e != api.OK {
		return 0, e
	}
	sum, ok := follow(s, from, to, l)
	if !ok {
		return 0, api.ErrProof
	}
	return sum, api.OK
}

// checkIndices checks what a list has to be before it is followed as a chain.
func checkIndices(s api.System, l []int) api.Errno {
	if len(l) > api.MaxFits {
		return api.ErrLimit
	}
	for _, i := range l {
		if !isIndex(i, len(s.Links)) {
			return api.ErrArg
		}
	}
	return api.OK
}

// follow returns the sum of a list of indices, if it is a chain from the one node to the other.
func follow(s api.System, from, to int, l []int) (int, bool) {
	sum := 0
	for _, i := range l {
		if s.Links[i].From != from {
			return 0, false
		}
		from = s.Links[i].To
		sum += s.Links[i].Most
	}
	return sum, from == to
}

// clash returns the first one of all closed chains below 0 of a system that is not consistent. The shortest ones visit no node twice.
func (g *graph) clash() []int {
	to := make([]leastSums, g.nodes)
	for node := range to {
		to[node] = g.sumsTo(node)
	}
	links := 1
search:
	for ; links < g.nodes; links++ {
		for node, sums := range to {
			if sums(links)[node] < 0 {
				break search
			}
		}
	}
	var first []int
	for node, sums := range to {
		if sums(links)[node] >= 0 {
			continue
		}
		chain := g.firstChain(node, links, -1, sums)
		if first == nil || slices.Compare(chain, first) < 0 {
			first = chain
		}
	}
	return first
}

// sumsTo counts the chains to a node by their links, as far as it is asked.
func (g *graph) sumsTo(node int) leastSums {
	var sums [api.MaxNodes + 1][]int
	sums[0] = g.unbound()
	sums[0][node] = 0
	known := 0
	return func(links int) []int {
		for known < links {
			known++
			sums[known] = g.lengthen(sums[known-1])
		}
		return sums[links]
	}
}

// lengthen returns the least sums of the chains that have one link more in front.
func (g *graph) lengthen(sums []int) []int {
	longer := g.unbound()
	for node, sum := range sums {
		if sum == api.Free {
			continue
		}
		for l := range g.linksInto(node) {
			longer[l.From] = min(longer[l.From], sum+l.Most)
		}
	}
	return longer
}

// firstChain returns the first one of the chains of that many links from a node to that of sums, whose sum is at most most. There has to be one.
func (g *graph) firstChain(from, links, most int, sums leastSums) []int {
	var chain []int
	for ; links > 0; links-- {
		rest := sums(links - 1)
		next := slices.IndexFunc(g.links, func(l api.Link) bool { return l.From == from && rest[l.To] <= most-l.Most })
		chain = append(chain, next)
		from, most = g.links[next].To, most-g.links[next].Most
	}
	return chain
}
