package compare

import (
	"cmp"
	"slices"

	"wringing/api"
	"wringing/exact"
)

// ledger is a valid book, with what is looked up in it again and again.
type ledger struct {
	api.Book
	places map[int]int // the index of each gauge, by its ID
	nodes  []api.Node
}

// open returns the ledger of a book, or the first error of the book.
func open(b api.Book) (*ledger, api.Errno) {
	l := &ledger{Book: b, places: map[int]int{}}
	steps := []func() api.Errno{
		l.checkSizes, l.enterGauges, l.checkUses, l.checkLoans, l.checkCompares, l.checkLooks, l.enterNodes,
	}
	for _, step := range steps {
		if e := step(); e != api.OK {
			return nil, e
		}
	}
	return l, api.OK
}

// openGauge opens a book of which a gauge and some days are asked.
func openGauge(b api.Book, gauge int, days ...int) (*ledger, api.Gauge, api.Errno) {
	l, e := open(b)
	if e != api.OK {
		return nil, api.Gauge{}, e
	}
	for _, day := range days {
		if !isDay(day) {
			return nil, api.Gauge{}, api.ErrArg
		}
	}
	g, ok := l.gauge(gauge)
	if !ok {
		return nil, api.Gauge{}, api.ErrNone
	}
	return l, g, api.OK
}

// openCompare opens a book of which one comparison is asked.
func openCompare(b api.Book, which int) (*ledger, api.Compare, api.Errno) {
	l, e := open(b)
	if e != api.OK {
		return nil, api.Compare{}, e
	}
	if !isWithin(which, 0, len(l.Compares)-1) {
		return nil, api.Compare{}, api.ErrArg
	}
	return l, l.Compares[which], api.OK
}

func (l *ledger) gauge(id int) (api.Gauge, bool) {
	i, ok := l.places[id]
	if !ok {
		return api.Gauge{}, false
	}
	return l.Gauges[i], true
}

func (l *ledger) checkSizes() api.Errno {
	switch {
	case !isSpan(l.Film, 0, api.MaxFilm):
		return api.ErrArg
	case len(l.Gauges) > api.MaxGauges, len(l.Uses) > api.MaxUses, len(l.Loans) > api.MaxLoans,
		len(l.Compares) > api.MaxCompares, len(l.Looks) > api.MaxLooks:
		return api.ErrLimit
	}
	return api.OK
}

func (l *ledger) enterGauges() api.Errno {
	before := 0
	for i, g := range l.Gauges {
		if !isGauge(g) {
			return api.ErrArg
		}
		if g.ID <= before {
			return api.ErrTwice
		}
		before = g.ID
		l.places[g.ID] = i
	}
	return api.OK
}

func isGauge(g api.Gauge) bool {
	return isWithin(g.ID, 1, api.MaxID) && isDay(g.Made) && isWithin(g.Nominal, 1, api.MaxLen) &&
		isSpan(g.Tol, -api.MaxTol, api.MaxTol) && isGrowth(g.Growth) && isWithin(g.Wear, 0, api.MaxWear)
}

func isGrowth(r api.Rat) bool {
	return exact.Valid(r) && isWithin(r.Num, -api.MaxGrowth, api.MaxGrowth) && r.Den <= api.MaxPart
}

func (l *ledger) checkUses() api.Errno {
	for _, u := range l.Uses {
		if e := l.checkDay(u.Gauge, u.Day); e != api.OK {
			return e
		}
	}
	return api.OK
}

func (l *ledger) checkLooks() api.Errno {
	for _, n := range l.Looks {
		if e := l.checkDay(n.Gauge, n.Day); e != api.OK {
			return e
		}
	}
	return api.OK
}

// checkDay returns what is wrong with a day of a gauge.
func (l *ledger) checkDay(gauge, day int) api.Errno {
	if !isDay(day) {
		return api.ErrArg
	}
	g, ok := l.gauge(gauge)
	if !ok {
		return api.ErrNone
	}
	if day < g.Made {
		return api.ErrState
	}
	return api.OK
}

func (l *ledger) checkLoans() api.Errno {
	for i, loan := range l.Loans {
		if !isSpan(loan.Days, 0, api.MaxDay) || !isWithin(loan.Wear, 0, api.MaxWear) {
			return api.ErrArg
		}
		if e := l.checkDay(loan.Gauge, loan.Days.Lo); e != api.OK {
			return e
		}
		g, _ := l.gauge(loan.Gauge)
		again := func(other api.Loan) bool {
			return other.Gauge == loan.Gauge && other.Days.Lo <= loan.Days.Hi && loan.Days.Lo <= other.Days.Hi
		}
		if slices.ContainsFunc(l.Loans[:i], again) || l.usedWithin(g, loan.Days) {
			return api.ErrClash
		}
	}
	return api.OK
}

func (l *ledger) checkCompares() api.Errno {
	for i, c := range l.Compares {
		if !isCompare(c) {
			return api.ErrArg
		}
		same := func(other api.Compare) bool { return other.ID == c.ID }
		if slices.ContainsFunc(l.Compares[:i], same) {
			return api.ErrTwice
		}
		if e := l.checkPiles(c.Day, c.A, c.B); e != api.OK {
			return e
		}
	}
	return api.OK
}

func isCompare(c api.Compare) bool {
	return isWithin(c.ID, 1, api.MaxID) && isDay(c.Day) && isWithin(c.Diff, -api.MaxLen, api.MaxLen) &&
		isWithin(c.Error, 0, api.MaxTol) && isSpan(c.Heat, -api.MaxHeat, api.MaxHeat) && isPile(c.A) && isPile(c.B)
}

// checkPiles returns what forbids to compare two piles on a day.
func (l *ledger) checkPiles(day int, a, b []int) api.Errno {
	var gauges []api.Gauge
	for _, id := range slices.Concat(a, b) {
		g, ok := l.gauge(id)
		if !ok {
			return api.ErrNone
		}
		gauges = append(gauges, g)
	}
	if slices.ContainsFunc(gauges, func(g api.Gauge) bool { return day < g.Made }) {
		return api.ErrState
	}
	if slices.ContainsFunc(gauges, func(g api.Gauge) bool { return l.awayOn(g, day) }) {
		return api.ErrClash
	}
	x, y := without(a, b), without(b, a)
	if len(x) > 1 || len(y) > 1 || len(x)+len(y) == 0 {
		return api.ErrArg
	}
	return api.OK
}

// usedWithin reports whether a gauge was used on one of some days.
func (l *ledger) usedWithin(g api.Gauge, days api.Span) bool {
	return slices.ContainsFunc(l.Uses, func(u api.Use) bool { return u.Gauge == g.ID && isWithin(u.Day, days.Lo, days.Hi) })
}

func (l *ledger) awayOn(g api.Gauge, day int) bool {
	return slices.ContainsFunc(l.Loans, func(loan api.Loan) bool {
		return loan.Gauge == g.ID && isWithin(day, loan.Days.Lo, loan.Days.Hi)
	})
}

// enterNodes finds the nodes of the book, and checks how many they and their links are.
func (l *ledger) enterNodes() api.Errno {
	for _, g := range l.Gauges {
		l.nodes = append(l.nodes, api.Node{Gauge: g.ID, Day: g.Made})
	}
	for _, c := range l.Compares {
		for _, id := range slices.Concat(without(c.A, c.B), without(c.B, c.A)) {
			l.nodes = append(l.nodes, api.Node{Gauge: id, Day: c.Day})
		}
	}
	l.nodes = append(l.nodes, l.Looks...)
	// The IDs of gauges increase, so this is the order of the gauges, too.
	slices.SortFunc(l.nodes, func(m, n api.Node) int {
		return cmp.Or(cmp.Compare(m.Gauge, n.Gauge), cmp.Compare(m.Day, n.Day))
	})
	l.nodes = slices.Compact(l.nodes)
	if len(l.nodes) > api.MaxNodes-1 || 2*(len(l.nodes)+len(l.Compares)) > api.MaxLinks {
		return api.ErrLimit
	}
	return api.OK
}
