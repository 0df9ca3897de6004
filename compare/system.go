package compare

import (
	"iter"
	"slices"

	"wringing/api"
	"wringing/chain"
)

// limit says that the value of the node to, less that of the node from, lies in a span.
type limit struct {
	from, to int
	by       api.Span
}

// Nodes returns the nodes of a book, in the order of its system.
func Nodes(b api.Book) ([]api.Node, api.Errno) {
	l, e := open(b)
	if e != api.OK {
		return nil, e
	}
	return l.nodes, api.OK
}

// Index returns the index of a node in the system of a book.
func Index(b api.Book, n api.Node) (int, api.Errno) {
	l, e := open(b)
	if e != api.OK {
		return 0, e
	}
	i := l.index(n)
	if i == 0 {
		return 0, api.ErrNone
	}
	return i, api.OK
}

// System returns the system of a book, and the source of each link.
func System(b api.Book) (api.System, []api.Source, api.Errno) {
	l, e := open(b)
	if e != api.OK {
		return api.System{}, nil, e
	}
	s, sources := l.system()
	return s, sources, api.OK
}

// Fits reports whether lengths of the nodes fit a book.
func Fits(b api.Book, lengths []int) (bool, api.Errno) {
	l, e := open(b)
	if e != api.OK {
		return false, e
	}
	if e := l.checkLengths(lengths); e != api.OK {
		return false, e
	}
	return l.fits(lengths), api.OK
}

// Wears returns what a gauge lost on each day, for lengths that fit.
func Wears(b api.Book, gauge int, lengths []int) ([]int, api.Errno) {
	l, g, e := openGauge(b, gauge)
	if e != api.OK {
		return nil, e
	}
	if e := l.checkLengths(lengths); e != api.OK {
		return nil, e
	}
	if !l.fits(lengths) {
		return nil, api.ErrProof
	}
	var lost []int
	for i, n := range l.nodes {
		if n.Gauge != g.ID || n.Day == g.Made {
			continue
		}
		if n.Day-g.Made > api.MaxSpan {
			return nil, api.ErrLimit
		}
		rest := lengths[i-1] - lengths[i]
		for most := range l.losses(g, l.nodes[i-1].Day, n.Day) {
			lost = append(lost, min(rest, most))
			rest -= min(rest, most)
		}
	}
	return lost, api.OK
}

// losses yields the losses of the days behind from - 1, and before to.
func (l *ledger) losses(g api.Gauge, from, to int) iter.Seq[int] {
	return func(yield func(int) bool) {
		for day := from; day < to; day++ {
			if !yield(l.loss(g, day, day+1)) {
				return
			}
		}
	}
}

// index returns the index of a node in the system, or 0, that of the value 0, if it is none of the book.
func (l *ledger) index(n api.Node) int { return slices.Index(l.nodes, n) + 1 }

// ends returns the indices of the nodes of what is left of both piles.
func (l *ledger) ends(c api.Compare) (x, y int) {
	a, b := left(c)
	return l.index(api.Node{Gauge: a, Day: c.Day}), l.index(api.Node{Gauge: b, Day: c.Day})
}

// limits yields what the book says about the values of its nodes, in the order of the links, with the sources.
func (l *ledger) limits() iter.Seq2[limit, api.Source] {
	return func(yield func(limit, api.Source) bool) {
		for i, n := range l.nodes {
			if !yield(l.nodeLimit(i+1, n)) {
				return
			}
		}
		for i, c := range l.Compares {
			x, y := l.ends(c)
			if !yield(limit{from: y, to: x, by: l.says(c)}, api.Source{Kind: api.SoCompare, Which: i}) {
				return
			}
		}
	}
}

// nodeLimit returns what is said about a node with an index, by its maker or by the node before it.
func (l *ledger) nodeLimit(index int, n api.Node) (limit, api.Source) {
	which := l.places[n.Gauge]
	g := l.Gauges[which]
	if first := (api.Node{Gauge: g.ID, Day: g.Made}); n == first {
		made := both(g.Tol, func(end int) int { return g.Nominal + end })
		return limit{to: index, by: made}, api.Source{Kind: api.SoMade, Which: which}
	}
	before := index - 1
	loss := l.loss(g, l.nodes[before-1].Day, n.Day)
	return limit{from: before, to: index, by: api.Span{Lo: -loss}}, api.Source{Kind: api.SoWear, Which: which}
}

func (l *ledger) system() (api.System, []api.Source) {
	s := api.System{Nodes: len(l.nodes) + 1}
	var sources []api.Source
	for m, source := range l.limits() {
		up := api.Link{From: m.from, To: m.to, Most: m.by.Hi}
		down := api.Link{From: m.to, To: m.from, Most: -m.by.Lo}
		s.Links = append(s.Links, up, down)
		sources = append(sources, source, source)
	}
	return s, sources
}

func (l *ledger) checkLengths(lengths []int) api.Errno {
	far := func(length int) bool { return !isWithin(length, -api.MaxBound, api.MaxBound) }
	if len(lengths) != len(l.nodes) || slices.ContainsFunc(lengths, far) {
		return api.ErrArg
	}
	return api.OK
}

// values returns the values of all nodes of the system: that of the node 0 is 0.
func values(lengths []int) []int { return append([]int{0}, lengths...) }

func (l *ledger) fits(lengths []int) bool {
	s, _ := l.system()
	fits, e := chain.Fits(s, values(lengths))
	return fits && e == api.OK
}
