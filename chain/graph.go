package chain

import (
	"iter"
	"slices"

	"wringing/api"
)

// graph is a valid system whose links are told by the nodes that they lead into. Some of its links may be left out.
type graph struct {
	nodes   int
	links   []api.Link
	into    [][]int // the indices of the links into each node
	dropped []bool  // the links that are left out
}

// queue hands out what was put into it, the first one first.
type queue[T any] struct{ items []T }

func (q *queue[T]) put(item T) { q.items = append(q.items, item) }

func (q *queue[T]) take() (T, bool) {
	if len(q.items) == 0 {
		var none T
		return none, false
	}
	first := q.items[0]
	q.items = q.items[1:]
	return first, true
}

func newGraph(s api.System) *graph {
	g := &graph{nodes: s.Nodes, links: s.Links, into: make([][]int, s.Nodes), dropped: make([]bool, len(s.Links))}
	for i, l := range s.Links {
		g.into[l.To] = append(g.into[l.To], i)
	}
	return g
}

// open makes the graph of a system in which bounds are asked for, and of which some numbers have to be nodes.
func open(s api.System, nodes ...int) (*graph, api.Errno) {
	if e, _ := Check(s); e != api.OK {
		return nil, e
	}
	for _, node := range nodes {
		if !isIndex(node, s.Nodes) {
			return nil, api.ErrArg
		}
	}
	g := newGraph(s)
	if !g.consistent() {
		return nil, api.ErrClash
	}
	return g, api.OK
}

// linksInto yields the links into a node that are not left out.
func (g *graph) linksInto(node int) iter.Seq[api.Link] {
	return func(yield func(api.Link) bool) {
		for _, i := range g.into[node] {
			if !g.dropped[i] && !yield(g.links[i]) {
				return
			}
		}
	}
}

func (g *graph) consistent() bool {
	_, ok := g.levels()
	return ok
}

// levels returns a number for each node such that, for each link, that of From is at most that of To plus Most: their opposites are a solution, but for the value of the node 0. There are none if the system is not consistent.
func (g *graph) levels() ([]int, bool) {
	sums := make([]int, g.nodes)
	return sums, g.settle(sums)
}

// boundsTo returns the bound of each node and a certain one, or api.Free. The system has to be consistent.
func (g *graph) boundsTo(node int) []int {
	sums := g.unbound()
	sums[node] = 0
	g.settle(sums)
	return sums
}

// unbound returns a sum for each node that stands for: no chain.
func (g *graph) unbound() []int { return slices.Repeat([]int{api.Free}, g.nodes) }

// settle lowers the sums of chains that start at the nodes, until no link in front of a chain makes a lower one. It gives up if a chain has as many links as there are nodes: it visits a node twice, and has a lower sum there each time, so a part of it is a closed chain below 0. Shorter chains have sums far from overflow.
func (g *graph) settle(sums []int) bool {
	var changed queue[int]
	var waiting [api.MaxNodes]bool
	var links [api.MaxNodes]int
	for node, sum := range sums {
		if sum != api.Free {
			changed.put(node)
			waiting[node] = true
		}
	}
	for {
		node, ok := changed.take()
		if !ok {
			return true
		}
		waiting[node] = false
		for l := range g.linksInto(node) {
			if sums[node]+l.Most >= sums[l.From] {
				continue
			}
			sums[l.From], links[l.From] = sums[node]+l.Most, links[node]+1
			if links[l.From] == g.nodes {
				return false
			}
			if !waiting[l.From] {
				waiting[l.From] = true
				changed.put(l.From)
			}
		}
	}
}

// turned returns a system with all links turned round.
func turned(s api.System) api.System {
	back := api.System{Nodes: s.Nodes, Links: make([]api.Link, len(s.Links))}
	for i, l := range s.Links {
		back.Links[i] = api.Link{From: l.To, To: l.From, Most: l.Most}
	}
	return back
}
