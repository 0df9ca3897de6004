package sharp

import (
	"sort"

	"wringing/api"
	"wringing/chain"
	"wringing/compare"
)

// trial is a further comparison whose result is not known yet, and how it bounds a node: the greatest length, and the least one with the opposite sign.
type trial struct {
	results     api.Span
	upper, less edge
}

// edge is a bound of two nodes with a further comparison, which adds a link that says more with a greater result, and one that says less: the least sum of a chain with none of them, with the one, or with the other. (A chain with both is closed in between.)
type edge struct{ without, rising, falling int }

// Worst returns the greatest width that an interval can have with a further comparison.
func Worst(b api.Book, n api.Node, c api.Compare) (int, api.Errno) {
	s, e := open(b, n)
	if e != api.OK {
		return 0, e
	}
	t, e := s.trial(n, c)
	if e != api.OK {
		return 0, e
	}
	return t.worst(), api.OK
}

// Best returns the comparison that narrows an interval most.
func Best(b api.Book, n api.Node, l []api.Compare) (int, api.Errno) {
	s, e := open(b, n)
	if e != api.OK {
		return 0, e
	}
	switch {
	case len(l) == 0:
		return 0, api.ErrArg
	case len(l) > api.MaxChoice:
		return 0, api.ErrLimit
	}
	best, least := 0, api.Free
	for i, c := range l {
		t, e := s.trial(n, c)
		if e != api.OK {
			return 0, e
		}
		if worst := t.worst(); worst < least {
			best, least = i, worst
		}
	}
	return best, api.OK
}

// Settles reports whether a further comparison surely decides a verdict.
func Settles(b api.Book, n api.Node, limits api.Span, c api.Compare) (bool, api.Errno) {
	s, e := openLimits(b, n, limits)
	if e != api.OK {
		return false, e
	}
	t, e := s.trial(n, c)
	if e != api.OK {
		return false, e
	}
	return t.parts(near(limits.Lo)) && t.parts(near(limits.Hi)+1), api.OK
}

// near moves a limit that is farther than each length so far that one can calculate with it.
func near(limit int) int { return max(-api.Free, min(limit, api.Free)) }

// trial returns what a further comparison can tell about a node.
func (s sight) trial(n api.Node, c api.Compare) (trial, api.Errno) {
	results, e := compare.Predict(s.book, c)
	if e != api.OK {
		return trial{}, e
	}
	c.Diff = 0
	more, _ := compare.With(s.book, c)
	place, _ := compare.Index(more, n)
	system, _, _ := compare.System(more)
	// The last two links are those of the last comparison: what they say is moved by its result.
	count := len(system.Links) - 2
	rising, falling := system.Links[count], system.Links[count+1]
	system.Links = system.Links[:count]
	bounds, _ := chain.Tight(system)
	edgeOf := func(from, to int) edge {
		through := func(l api.Link) int { return bounds[from][l.From] + l.Most + bounds[l.To][to] }
		return edge{without: bounds[from][to], rising: through(rising), falling: through(falling)}
	}
	return trial{results: results, upper: edgeOf(0, place), less: edgeOf(place, 0)}, api.OK
}

// worst returns the greatest width. The least one of some sums that change evenly grows less and less, and so does the width, until it does not grow any more.
func (t trial) worst() int {
	growth := sort.Search(t.results.Hi-t.results.Lo, func(i int) bool {
		result := t.results.Lo + i
		return t.width(result+1) <= t.width(result)
	})
	return t.width(t.results.Lo + growth)
}

func (t trial) width(result int) int { return t.upper.at(result) + t.less.at(result) }

// parts reports whether no result leaves both lengths from a threshold on, and lengths below it.
func (t trial) parts(threshold int) bool {
	open := commonOf(t.upper.reaches(threshold), t.less.reaches(1-threshold))
	return commonOf(open, t.results) == nothing
}

func (d edge) at(result int) int { return min(d.without, d.rising+result, d.falling-result) }

// reaches returns the results with which the bound is at least some number.
func (d edge) reaches(bound int) api.Span {
	if d.without < bound {
		return nothing
	}
	return api.Span{Lo: bound - d.rising, Hi: d.falling - bound}
}
