package compare

import (
	"slices"

	"wringing/api"
	"wringing/chain"
	"wringing/exact"
)

// growth is by how much a length becomes greater with each millikelvin.
type growth struct{ api.Rat }

// over returns the least and the greatest growth at temperatures of a span.
func (g growth) over(heat api.Span) api.Range {
	// The limits of growths and temperatures are such that no number here is too great.
	r, _ := exact.Scale(api.Range{Lo: whole(heat.Lo), Hi: whole(heat.Hi)}, g.Rat)
	return r
}

func whole(n int) api.Rat { return api.Rat{Num: n, Den: 1} }

// Loss returns the most that a gauge can have lost from one day to another one.
func Loss(b api.Book, gauge, from, to int) (int, api.Errno) {
	l, g, e := openGauge(b, gauge, from, to)
	if e != api.OK {
		return 0, e
	}
	if from > to || from < g.Made {
		return 0, api.ErrRange
	}
	return l.loss(g, from, to), api.OK
}

// Growth returns by how much a pile can have been longer than another one because of the temperature.
func Growth(b api.Book, which int) (api.Range, api.Errno) {
	l, c, e := openCompare(b, which)
	if e != api.OK {
		return api.Range{}, e
	}
	return l.growth(c), api.OK
}

// Films returns by how much a pile can have been longer than another one because of its films.
func Films(b api.Book, which int) (api.Span, api.Errno) {
	l, c, e := openCompare(b, which)
	if e != api.OK {
		return api.Span{}, e
	}
	return l.films(c), api.OK
}

// Says returns the differences of lengths that a comparison allows.
func Says(b api.Book, which int) (api.Span, api.Errno) {
	l, c, e := openCompare(b, which)
	if e != api.OK {
		return api.Span{}, e
	}
	return l.says(c), api.OK
}

// Shows returns the differences that a comparison can have shown, for lengths of the nodes.
func Shows(b api.Book, which int, lengths []int) (api.Span, api.Errno) {
	l, c, e := openCompare(b, which)
	if e != api.OK {
		return api.Span{}, e
	}
	if e := l.checkLengths(lengths); e != api.OK {
		return api.Span{}, e
	}
	excess := l.excess(c)
	if excess.Lo > excess.Hi {
		return api.Span{}, api.ErrNone
	}
	x, y := l.ends(c)
	all := values(lengths)
	return both(excess, func(end int) int { return all[x] - all[y] + end }), api.OK
}

// Predict returns the differences that a further comparison can show.
func Predict(b api.Book, c api.Compare) (api.Span, api.Errno) {
	c.Diff = 0
	l, e := further(b, c)
	if e != api.OK {
		return api.Span{}, e
	}
	s, _ := l.system()
	// The further comparison is the last one, so its links are, too; its nodes stay.
	s.Links = s.Links[:len(s.Links)-2]
	x, y := l.ends(c)
	most, e := chain.Bound(s, y, x)
	if e != api.OK {
		return api.Span{}, e
	}
	less, e := chain.Bound(s, x, y)
	if e != api.OK {
		return api.Span{}, e
	}
	// If no integer is shown for one difference, none is for any, even where the sums below are a span.
	excess := l.excess(c)
	if excess.Lo > excess.Hi {
		return api.Span{}, api.ErrNone
	}
	return api.Span{Lo: excess.Lo - less, Hi: excess.Hi + most}, api.OK
}

// loss returns the sum of the losses of the days behind from - 1, and before to.
func (l *ledger) loss(g api.Gauge, from, to int) int {
	sum := 0
	for i, u := range l.Uses {
		if u.Gauge == g.ID && isWithin(u.Day, from, to-1) && !slices.Contains(l.Uses[:i], u) {
			sum += g.Wear
		}
	}
	// No loan has a day with another one, or with a use.
	for _, loan := range l.Loans {
		if loan.Gauge == g.ID {
			sum += loan.Wear * max(0, min(loan.Days.Hi+1, to)-max(loan.Days.Lo, from))
		}
	}
	return sum
}

func (l *ledger) growth(c api.Compare) api.Range {
	x, y := left(c)
	k, _ := exact.Sub(l.growthOf(x), l.growthOf(y))
	return growth{k}.over(c.Heat)
}

// growthOf returns the growth of a gauge, or 0 for none.
func (l *ledger) growthOf(id int) api.Rat {
	g, ok := l.gauge(id)
	if !ok {
		return whole(0)
	}
	return g.Growth
}

func (l *ledger) films(c api.Compare) api.Span {
	a, b := filmsOf(c.A), filmsOf(c.B)
	return api.Span{Lo: a*l.Film.Lo - b*l.Film.Hi, Hi: a*l.Film.Hi - b*l.Film.Lo}
}

// filmsOf returns how many films a pile has.
func filmsOf(pile []int) int { return max(0, len(pile)-1) }

// excess returns the least and the greatest integer by which what a comparison shows can be greater than the difference of the lengths; the least one is greater if there is none.
func (l *ledger) excess(c api.Compare) api.Span {
	films, growth := l.films(c), l.growth(c)
	least, _ := exact.Ceil(growth.Lo)
	most, _ := exact.Floor(growth.Hi)
	return api.Span{Lo: films.Lo + least - c.Error, Hi: films.Hi + most + c.Error}
}

func (l *ledger) says(c api.Compare) api.Span {
	excess := l.excess(c)
	return both(api.Span{Lo: excess.Hi, Hi: excess.Lo}, func(end int) int { return c.Diff - end })
}

// both returns a span both ends of which are turned alike.
func both(s api.Span, turn func(end int) int) api.Span {
	return api.Span{Lo: turn(s.Lo), Hi: turn(s.Hi)}
}

// left returns the gauges that are left of the piles of a valid comparison, 0 for none.
func left(c api.Compare) (x, y int) { return only(without(c.A, c.B)), only(without(c.B, c.A)) }

func only(ids []int) int {
	if len(ids) == 0 {
		return 0
	}
	return ids[0]
}
