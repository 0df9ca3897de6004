package room

import (
	"wringing/api"
	"wringing/sharp"
	"wringing/swap"
)

// question asks whether what bears a label on a day is within limits.
type question struct {
	label, day int
	limits     api.Span
}

// sight is what a way makes of a case: the book of the gauges, and the gauge that is asked about.
type sight struct {
	book api.Book
	node api.Node
}

// Judge returns the verdict about the length of what bears a label on a day.
func Judge(l []api.Fact, known, label, day int, limits api.Span) (int, api.Errno) {
	m, e := Gather(l, known)
	if e != api.OK {
		return 0, e
	}
	q := question{label: label, day: day, limits: limits}
	ways, e := q.open(m)
	if e != api.OK {
		return 0, e
	}
	return q.verdict(q.sights(m, ways)), api.OK
}

// open returns the ways that explain a case, if the question about it has an answer.
func (q question) open(m api.Mixed) ([][][]int, api.Errno) {
	if _, e := swap.Coulds(m, q.label, q.day); e != api.OK {
		return nil, e
	}
	if q.limits.Lo > q.limits.Hi {
		return nil, api.ErrArg
	}
	return swap.All(m)
}

// sights returns what some ways make of a valid case.
func (q question) sights(m api.Mixed, ways [][][]int) []sight {
	var sights []sight
	for _, way := range ways {
		b, _ := swap.Translate(m, way)
		gauge, _ := swap.Who(m, way, q.label, q.day)
		sights = append(sights, sight{book: b, node: api.Node{Gauge: gauge, Day: q.day}})
	}
	return sights
}

// verdict returns what all ways that explain a case agree on, or that it is open; 0 if there is no such way.
func (q question) verdict(sights []sight) int {
	common := 0
	for _, s := range sights {
		v := q.by(s)
		if v == api.ShOpen || v != 0 && common != 0 && v != common {
			return api.ShOpen
		}
		common = max(common, v)
	}
	return common
}

// by returns the verdict by one way, or 0 if this way does not explain the case.
func (q question) by(s sight) int {
	v, e := sharp.Judge(s.book, s.node, q.limits)
	if e != api.OK && e != api.ErrClash {
		// Nothing can be told of the gauge, so its length stays open; whether there is a history is told without it.
		v = api.ShOpen
		_, e = sharp.Intervals(s.book)
	}
	if e == api.ErrClash {
		return 0
	}
	return v
}
