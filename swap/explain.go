package swap

import (
	"maps"
	"slices"

	"wringing/api"
	"wringing/chain"
	"wringing/compare"
)

// Explains reports whether a way explains what was seen.
func Explains(m api.Mixed, way [][]int) (bool, api.Errno) {
	if e := checkWay(m, way); e != api.OK {
		return false, e
	}
	return explains(m, way), api.OK
}

// All returns the ways that explain what was seen.
func All(m api.Mixed) ([][][]int, api.Errno) {
	if e := Check(m); e != api.OK {
		return nil, e
	}
	return allOf(m), api.OK
}

// Least returns the first way that explains what was seen.
func Least(m api.Mixed) ([][]int, api.Errno) {
	if e := Check(m); e != api.OK {
		return nil, e
	}
	way, ok := leastOf(m)
	if !ok {
		return nil, api.ErrNone
	}
	return way, api.OK
}

// Coulds returns the gauges that can have borne a label on a day, and their lengths.
func Coulds(m api.Mixed, label, day int) ([]api.Could, api.Errno) {
	if e := Check(m); e != api.OK {
		return nil, e
	}
	if e := checkAsked(m.Book, label, day); e != api.OK {
		return nil, e
	}
	// Labels and gauges match on each day, and no mix-up has a label whose gauge is made later; so a look at a label is a look at its gauge, by each way, and has the same error.
	m, e := lookAt(m, api.Node{Gauge: label, Day: day})
	if e != api.OK {
		if _, ok := leastOf(m); !ok {
			return nil, api.ErrNone
		}
		return nil, e
	}
	lengths := map[int]api.Span{}
	for _, way := range waysOf(m.Mixes) {
		gauge := courseOf(m, way).on(day).gauges[label]
		s, ok := lengthsOf(m, way, api.Node{Gauge: gauge, Day: day})
		if !ok {
			continue
		}
		if before, twice := lengths[gauge]; twice {
			s = api.Span{Lo: min(s.Lo, before.Lo), Hi: max(s.Hi, before.Hi)}
		}
		lengths[gauge] = s
	}
	if len(lengths) == 0 {
		return nil, api.ErrNone
	}
	var coulds []api.Could
	for _, gauge := range slices.Sorted(maps.Keys(lengths)) {
		coulds = append(coulds, api.Could{Gauge: gauge, Len: lengths[gauge]})
	}
	return coulds, api.OK
}

// Sure returns the labels that surely are on the gauges whose they were, at the end.
func Sure(m api.Mixed) ([]int, api.Errno) {
	if e := Check(m); e != api.OK {
		return nil, e
	}
	var ends []bearing
	for _, way := range allOf(m) {
		ends = append(ends, courseOf(m, way).on(api.MaxDay))
	}
	if len(ends) == 0 {
		return nil, api.ErrNone
	}
	var sure []int
	for _, g := range m.Book.Gauges {
		if !slices.ContainsFunc(ends, func(end bearing) bool { return end.gauges[g.ID] != g.ID }) {
			sure = append(sure, g.ID)
		}
	}
	return sure, api.OK
}

func explains(m api.Mixed, way [][]int) bool {
	ok, _ := chain.Consistent(accountOf(m, way).system)
	return ok
}

func allOf(m api.Mixed) [][][]int {
	return slices.DeleteFunc(waysOf(m.Mixes), func(way [][]int) bool { return !explains(m, way) })
}

func leastOf(m api.Mixed) ([][]int, bool) {
	return first(slices.Values(waysOf(m.Mixes)), func(way [][]int) bool { return explains(m, way) })
}

// lookAt returns a case whose book has a node. With an error, the case is as it was.
func lookAt(m api.Mixed, n api.Node) (api.Mixed, api.Errno) {
	nodes, _ := compare.Nodes(m.Book)
	if slices.Contains(nodes, n) {
		return m, api.OK
	}
	b, e := compare.Look(m.Book, n)
	if e == api.OK {
		m.Book = b
	}
	return m, e
}

// lengthsOf returns the lengths that a node can have by a way, if this way explains the case.
func lengthsOf(m api.Mixed, way [][]int, n api.Node) (api.Span, bool) {
	a := accountOf(m, way)
	spans, e := chain.Spans(a.system)
	if e != api.OK {
		return api.Span{}, false
	}
	place, _ := compare.Index(a.book, n)
	return spans[place], true
}
