package swap

import (
	"maps"
	"slices"

	"wringing/api"
)

// bearing is who bears which label at some time: the gauge of each label, and the label of each gauge.
type bearing struct{ gauges, labels map[int]int }

// course is who bears which label as time goes by: at first, and behind each mix-up.
type course struct {
	mixes    []api.Mix
	bearings []bearing
}

// Who returns the gauge that bears a label on a day.
func Who(m api.Mixed, way [][]int, label, day int) (int, api.Errno) {
	b, e := openBearing(m, way, label, day)
	return b.gauges[label], e
}

// Label returns the label that a gauge bears on a day.
func Label(m api.Mixed, way [][]int, gauge, day int) (int, api.Errno) {
	b, e := openBearing(m, way, gauge, day)
	return b.labels[gauge], e
}

// Translate returns the book of the gauges, if labels were exchanged in a way.
func Translate(m api.Mixed, way [][]int) (api.Book, api.Errno) {
	if e := checkWay(m, way); e != api.OK {
		return api.Book{}, e
	}
	return translate(m, way), api.OK
}

// openBearing returns who bears which label on a day, if a gauge or label has the ID that is asked for; otherwise it is empty.
func openBearing(m api.Mixed, way [][]int, id, day int) (bearing, api.Errno) {
	if e := checkWay(m, way); e != api.OK {
		return bearing{}, e
	}
	if e := checkAsked(m.Book, id, day); e != api.OK {
		return bearing{}, e
	}
	return courseOf(m, way).on(day), api.OK
}

// courseOf returns who bears which label by a way.
func courseOf(m api.Mixed, way [][]int) course {
	now := bearing{gauges: map[int]int{}, labels: map[int]int{}}
	for _, g := range m.Book.Gauges {
		now.give(g.ID, g.ID)
	}
	c := course{mixes: m.Mixes, bearings: []bearing{now}}
	for i, x := range m.Mixes {
		next := bearing{gauges: maps.Clone(now.gauges), labels: maps.Clone(now.labels)}
		for place, label := range x.Labels {
			next.give(way[i][place], now.gauges[label])
		}
		now = next
		c.bearings = append(c.bearings, now)
	}
	return c
}

// give gives a label to a gauge.
func (b bearing) give(label, gauge int) { b.gauges[label], b.labels[gauge] = gauge, label }

// on returns who bears which label on a day: a mix-up happens in the evening.
func (c course) on(day int) bearing {
	behind := 0
	for behind < len(c.mixes) && c.mixes[behind].Day < day {
		behind++
	}
	return c.bearings[behind]
}

// translate returns the book of the gauges; it shares no list with the case.
func translate(m api.Mixed, way [][]int) api.Book {
	c := courseOf(m, way)
	who := func(label, day int) int { return c.on(day).gauges[label] }
	b := m.Book
	b.Gauges = slices.Clone(b.Gauges)
	b.Uses = each(b.Uses, func(u api.Use) api.Use {
		u.Gauge = who(u.Gauge, u.Day)
		return u
	})
	b.Loans = each(b.Loans, func(l api.Loan) api.Loan {
		l.Gauge = who(l.Gauge, l.Days.Lo)
		return l
	})
	b.Compares = each(b.Compares, func(d api.Compare) api.Compare {
		gauge := func(label int) int { return who(label, d.Day) }
		d.A, d.B = each(d.A, gauge), each(d.B, gauge)
		slices.Sort(d.A)
		slices.Sort(d.B)
		return d
	})
	b.Looks = each(b.Looks, func(n api.Node) api.Node {
		n.Gauge = who(n.Gauge, n.Day)
		return n
	})
	return b
}

// each returns what a change makes of each element of a list, as a new list.
func each[T any](l []T, change func(T) T) []T {
	var changed []T
	for _, x := range l {
		changed = append(changed, change(x))
	}
	return changed
}
