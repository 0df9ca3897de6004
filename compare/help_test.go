package compare_test

import (
	"math/big"
	"math/rand"
	"reflect"
	"slices"
	"testing"

	"wringing/api"
	"wringing/chain"
	"wringing/compare"
)

const (
	leastInt = -1 << 63
	mostInt  = 1<<63 - 1
)

func span(lo, hi int) api.Span { return api.Span{Lo: lo, Hi: hi} }

func rat(num, den int) api.Rat { return api.Rat{Num: num, Den: den} }

func node(gauge, day int) api.Node { return api.Node{Gauge: gauge, Day: day} }

func use(gauge, day int) api.Use { return api.Use{Gauge: gauge, Day: day} }

func loan(gauge, lo, hi, wear int) api.Loan {
	return api.Loan{Gauge: gauge, Days: span(lo, hi), Wear: wear}
}

// gauge returns a gauge that was made on the day 0, does not grow, and does not wear.
func gauge(id, nominal, lo, hi int) api.Gauge {
	return api.Gauge{ID: id, Nominal: nominal, Tol: span(lo, hi), Growth: rat(0, 1)}
}

// cold returns a comparison at the temperature of reference.
func cold(id, day int, a, b []int, diff, most int) api.Compare {
	return api.Compare{ID: id, Day: day, A: a, B: b, Diff: diff, Error: most}
}

// example is the book of the chapter.
func example() api.Book {
	one, two := gauge(1, 1000, -5, 5), gauge(2, 1000, -50, 50)
	one.Growth, two.Growth = rat(1, 10), rat(1, 4)
	one.Wear = 1
	return api.Book{
		Film:     span(0, 2),
		Gauges:   []api.Gauge{one, two},
		Uses:     []api.Use{use(1, 10)},
		Loans:    []api.Loan{loan(1, 20, 29, 3)},
		Compares: []api.Compare{{ID: 7, Day: 10, A: []int{1}, B: []int{2}, Diff: -20, Error: 1, Heat: span(100, 200)}},
	}
}

// plain is a book of some gauges with the IDs 1, 2, 3 and so on, of 100 units, at most 9 more or less.
func plain(gauges int) api.Book {
	var b api.Book
	for i := range gauges {
		b.Gauges = append(b.Gauges, gauge(i+1, 100, -9, 9))
	}
	return b
}

// filled is a book that has the most gauges, uses, loans, comparisons, looks and nodes.
func filled() api.Book {
	b := plain(api.MaxGauges)
	for i := range b.Gauges {
		b.Gauges[i].Wear = i
	}
	for i := range api.MaxUses {
		b.Uses = append(b.Uses, use(1+i%api.MaxGauges, 5+i))
	}
	for i := range api.MaxLoans {
		b.Loans = append(b.Loans, loan(1+i, 60+i, 70+i, 2))
	}
	for i := range api.MaxCompares {
		b.Compares = append(b.Compares, cold(i+1, 100+i, []int{1}, nil, 100, 500))
	}
	// The looks make 7 of the 59 nodes; 12 are the days on which gauges were made, and 40 are of comparisons.
	for i := range api.MaxLooks {
		b.Looks = append(b.Looks, node(2, 200+min(i, 6)))
	}
	return b
}

// changed returns what a change makes of a deep copy of a book.
func changed(b api.Book, change func(b *api.Book)) api.Book {
	b = cloned(b)
	change(&b)
	return b
}

func cloned(b api.Book) api.Book {
	b.Gauges, b.Uses, b.Loans = slices.Clone(b.Gauges), slices.Clone(b.Uses), slices.Clone(b.Loans)
	b.Compares, b.Looks = slices.Clone(b.Compares), slices.Clone(b.Looks)
	for i := range b.Compares {
		b.Compares[i].A, b.Compares[i].B = slices.Clone(b.Compares[i].A), slices.Clone(b.Compares[i].B)
	}
	return b
}

// same reports whether two books are the same, where an empty list may be nil.
func same(a, b api.Book) bool {
	sameCompare := func(c, d api.Compare) bool {
		piles := slices.Equal(c.A, d.A) && slices.Equal(c.B, d.B)
		c.A, c.B, d.A, d.B = nil, nil, nil, nil
		return piles && reflect.DeepEqual(c, d)
	}
	return a.Film == b.Film && slices.Equal(a.Gauges, b.Gauges) && slices.Equal(a.Uses, b.Uses) && slices.Equal(a.Loans, b.Loans) &&
		slices.EqualFunc(a.Compares, b.Compares, sameCompare) && slices.Equal(a.Looks, b.Looks)
}

// given are the arguments of a call beside the book.
type given struct {
	which, gauge, day, from, to int
	lengths, x, y, ids          []int
	c                           api.Compare
	n                           api.Node
}

// call is a function of the package with a book.
type call struct {
	name string
	run  func(b api.Book, g given) (any, api.Errno)
}

// calls are all functions with a book but Check.
func calls() []call {
	return []call{
		{"Used", func(b api.Book, g given) (any, api.Errno) { return result(compare.Used(b, g.gauge, g.day)) }},
		{"Away", func(b api.Book, g given) (any, api.Errno) { return result(compare.Away(b, g.gauge, g.day)) }},
		{"Loss", func(b api.Book, g given) (any, api.Errno) { return result(compare.Loss(b, g.gauge, g.from, g.to)) }},
		{"Growth", func(b api.Book, g given) (any, api.Errno) { return result(compare.Growth(b, g.which)) }},
		{"Films", func(b api.Book, g given) (any, api.Errno) { return result(compare.Films(b, g.which)) }},
		{"Says", func(b api.Book, g given) (any, api.Errno) { return result(compare.Says(b, g.which)) }},
		{"Nodes", func(b api.Book, g given) (any, api.Errno) { return result(compare.Nodes(b)) }},
		{"Index", func(b api.Book, g given) (any, api.Errno) { return result(compare.Index(b, g.n)) }},
		{"System", func(b api.Book, g given) (any, api.Errno) {
			s, sources, e := compare.System(b)
			return struct {
				System  api.System
				Sources []api.Source
			}{s, sources}, e
		}},
		{"Fits", func(b api.Book, g given) (any, api.Errno) { return result(compare.Fits(b, g.lengths)) }},
		{"Wears", func(b api.Book, g given) (any, api.Errno) { return result(compare.Wears(b, g.gauge, g.lengths)) }},
		{"Shows", func(b api.Book, g given) (any, api.Errno) { return result(compare.Shows(b, g.which, g.lengths)) }},
		{"Can", func(b api.Book, g given) (any, api.Errno) { return result(compare.Can(b, g.day, g.x, g.y)) }},
		{"Predict", func(b api.Book, g given) (any, api.Errno) { return result(compare.Predict(b, g.c)) }},
		{"With", func(b api.Book, g given) (any, api.Errno) { return result(compare.With(b, g.c)) }},
		{"Without", func(b api.Book, g given) (any, api.Errno) { return result(compare.Without(b, g.ids)) }},
		{"Look", func(b api.Book, g given) (any, api.Errno) { return result(compare.Look(b, g.n)) }},
		{"Print", func(b api.Book, g given) (any, api.Errno) { return result(compare.Print(b)) }},
	}
}

func result[T any](x T, e api.Errno) (any, api.Errno) { return x, e }

// exampleGiven are arguments for which all functions have a result with the book of the chapter.
func exampleGiven() given {
	return given{
		gauge: 1, day: 10, to: 25,
		lengths: []int{1000, 1000, 990, 990}, x: []int{1}, y: []int{2}, ids: []int{7},
		c: cold(8, 12, []int{1, 2}, []int{1}, -3, 2), n: node(2, 10),
	}
}

// isNothing reports whether a result is a zero value, where an empty list is one, too.
func isNothing(x any) bool { return x == nil || isZero(reflect.ValueOf(x)) }

func isZero(v reflect.Value) bool {
	switch v.Kind() {
	case reflect.Slice:
		return v.Len() == 0
	case reflect.Struct:
		for i := range v.NumField() {
			if !isZero(v.Field(i)) {
				return false
			}
		}
		return true
	}
	return v.IsZero()
}

// scene is a book with what each gauge truly lost on each day.
type scene struct {
	b    api.Book
	made []int   // the length of each gauge on the day on which it was made
	lost [][]int // what each gauge lost, on each day from the day 0 on
}

const sceneDays = 7 // the days of a scene are before this one

// length returns the true length of a gauge on a day.
func (s scene) length(id, day int) int {
	for i, g := range s.b.Gauges {
		if g.ID == id {
			length := s.made[i]
			for _, lost := range s.lost[i][g.Made:day] {
				length -= lost
			}
			return length
		}
	}
	panic("no such gauge")
}

// truth returns the true lengths at the nodes of the book.
func (s scene) truth(t *testing.T) []int {
	t.Helper()
	var lengths []int
	for _, n := range mustNodes(t, s.b) {
		lengths = append(lengths, s.length(n.Gauge, n.Day))
	}
	return lengths
}

// lossOn returns the loss of a day, by the words of the chapter.
func lossOn(b api.Book, g api.Gauge, day int) int {
	for _, l := range b.Loans {
		if l.Gauge == g.ID && l.Days.Lo <= day && day <= l.Days.Hi {
			return l.Wear
		}
	}
	for _, u := range b.Uses {
		if u.Gauge == g.ID && u.Day == day {
			return g.Wear
		}
	}
	return 0
}

func gaugeOf(b api.Book, id int) api.Gauge {
	return b.Gauges[slices.IndexFunc(b.Gauges, func(g api.Gauge) bool { return g.ID == id })]
}

// wholly returns the big number of an integer.
func wholly(n int) *big.Rat { return new(big.Rat).SetInt64(int64(n)) }

func plus(a, b *big.Rat) *big.Rat { return new(big.Rat).Add(a, b) }

// displays returns the least and the greatest difference that two piles can have, for lengths of the gauges, by the words of the chapter.
func displays(b api.Book, c api.Compare, length func(id int) int) (least, most *big.Rat) {
	side := func(pile []int) (fixed, slope *big.Rat, films int) {
		fixed, slope = wholly(0), wholly(0)
		for _, id := range pile {
			g := gaugeOf(b, id)
			fixed = plus(fixed, wholly(length(id)))
			slope = plus(slope, big.NewRat(int64(g.Growth.Num), int64(g.Growth.Den)))
		}
		return fixed, slope, max(len(pile), 1) - 1
	}
	fixedA, slopeA, filmsA := side(c.A)
	fixedB, slopeB, filmsB := side(c.B)
	fixed := new(big.Rat).Sub(fixedA, fixedB)
	slope := new(big.Rat).Sub(slopeA, slopeB)
	for _, t := range []int{c.Heat.Lo, c.Heat.Hi} {
		warm := plus(fixed, new(big.Rat).Mul(slope, wholly(t)))
		low := plus(warm, wholly(filmsA*b.Film.Lo-filmsB*b.Film.Hi))
		high := plus(warm, wholly(filmsA*b.Film.Hi-filmsB*b.Film.Lo))
		if least == nil || low.Cmp(least) < 0 {
			least = low
		}
		if most == nil || high.Cmp(most) > 0 {
			most = high
		}
	}
	return least, most
}

// canShow reports whether a comparison can show a difference, for lengths of the gauges, by the words of the chapter.
func canShow(b api.Book, c api.Compare, diff int, length func(id int) int) bool {
	least, most := displays(b, c, length)
	return least.Cmp(wholly(diff+c.Error)) <= 0 && most.Cmp(wholly(diff-c.Error)) >= 0
}

// allShown returns all differences that a comparison can show, for lengths of the gauges, by the words of the chapter.
func allShown(b api.Book, c api.Compare, length func(id int) int) []int {
	least, most := displays(b, c, length)
	first, _ := least.Float64()
	last, _ := most.Float64()
	var shown []int
	for diff := int(first) - c.Error - 2; diff <= int(last)+c.Error+2; diff++ {
		if least.Cmp(wholly(diff+c.Error)) <= 0 && most.Cmp(wholly(diff-c.Error)) >= 0 {
			shown = append(shown, diff)
		}
	}
	return shown
}

// leftOf returns what is left of two piles, by the words of the chapter.
func leftOf(a, b []int) (x, y []int) {
	for _, id := range a {
		if !slices.Contains(b, id) {
			x = append(x, id)
		}
	}
	for _, id := range b {
		if !slices.Contains(a, id) {
			y = append(y, id)
		}
	}
	return x, y
}

// nodesOf returns the nodes of a book, by the words of the chapter.
func nodesOf(b api.Book) []api.Node {
	var nodes []api.Node
	for _, g := range b.Gauges {
		for day := g.Made; day <= api.MaxDay; day++ {
			is := day == g.Made || slices.Contains(b.Looks, node(g.ID, day))
			for _, c := range b.Compares {
				x, y := leftOf(c.A, c.B)
				is = is || c.Day == day && (slices.Contains(x, g.ID) || slices.Contains(y, g.ID))
			}
			if is {
				nodes = append(nodes, node(g.ID, day))
			}
		}
	}
	return nodes
}

// hasHistory reports whether there is a history with lengths at the nodes, going day by day as the chapter says.
func hasHistory(b api.Book, nodes []api.Node, lengths []int) bool {
	at := map[api.Node]int{}
	for i, n := range nodes {
		at[n] = lengths[i]
	}
	for _, g := range b.Gauges {
		can := map[int]bool{}
		for length := g.Nominal + g.Tol.Lo; length <= g.Nominal+g.Tol.Hi; length++ {
			can[length] = true
		}
		for day := g.Made; day <= sceneDays; day++ {
			if length, ok := at[node(g.ID, day)]; ok {
				if !can[length] {
					return false
				}
				can = map[int]bool{length: true}
			}
			next := map[int]bool{}
			for length := range can {
				for lost := range lossOn(b, g, day) + 1 {
					next[length-lost] = true
				}
			}
			can = next
		}
	}
	for _, c := range b.Compares {
		if !canShow(b, c, c.Diff, func(id int) int { return at[node(id, c.Day)] }) {
			return false
		}
	}
	return true
}

// randomScene returns a book of up to that many gauges and comparisons, most of which tell the truth.
func randomScene(r *rand.Rand, gauges, compares int) scene {
	var s scene
	s.b.Film.Lo = r.Intn(2)
	s.b.Film.Hi = s.b.Film.Lo + r.Intn(3)
	growths := []api.Rat{rat(0, 1), rat(1, 2), rat(1, 3), rat(-1, 4), rat(2, 1), rat(3, 100)}
	for i := range 1 + r.Intn(gauges) {
		g := gauge(2*i+1+r.Intn(2), 40+r.Intn(9), -r.Intn(4), r.Intn(4))
		g.Made, g.Growth, g.Wear = r.Intn(3), growths[r.Intn(len(growths))], r.Intn(4)
		s.b.Gauges = append(s.b.Gauges, g)
		s.made = append(s.made, g.Nominal+g.Tol.Lo+r.Intn(g.Tol.Hi-g.Tol.Lo+1))
	}
	for range r.Intn(9) {
		g := s.b.Gauges[r.Intn(len(s.b.Gauges))]
		s.b.Uses = append(s.b.Uses, use(g.ID, g.Made+r.Intn(sceneDays-g.Made)))
	}
	for range r.Intn(5) {
		g := s.b.Gauges[r.Intn(len(s.b.Gauges))]
		lo := g.Made + r.Intn(sceneDays-g.Made)
		l := loan(g.ID, lo, lo+r.Intn(sceneDays-lo), r.Intn(3))
		if isFree(s.b, l) {
			s.b.Loans = append(s.b.Loans, l)
		}
	}
	for _, g := range s.b.Gauges {
		var lost []int
		for day := range sceneDays {
			lost = append(lost, r.Intn(lossOn(s.b, g, day)+1))
		}
		s.lost = append(s.lost, lost)
	}
	for i := range r.Intn(compares + 1) {
		if c, ok := s.randomCompare(r, i+1); ok {
			s.b.Compares = append(s.b.Compares, c)
		}
	}
	for range r.Intn(3) {
		g := s.b.Gauges[r.Intn(len(s.b.Gauges))]
		s.b.Looks = append(s.b.Looks, node(g.ID, g.Made+r.Intn(sceneDays-g.Made)))
	}
	return s
}

// isFree reports whether a gauge is neither away nor used on a day of a loan.
func isFree(b api.Book, l api.Loan) bool {
	for day := l.Days.Lo; day <= l.Days.Hi; day++ {
		if isAway(b, l.Gauge, day) || slices.Contains(b.Uses, use(l.Gauge, day)) {
			return false
		}
	}
	return true
}

func isAway(b api.Book, id, day int) bool {
	return slices.ContainsFunc(b.Loans, func(l api.Loan) bool { return l.Gauge == id && l.Days.Lo <= day && day <= l.Days.Hi })
}

// randomCompare returns a comparison that has one of the differences that it can have shown, or, seldom, another one.
func (s scene) randomCompare(r *rand.Rand, id int) (api.Compare, bool) {
	c := cold(id, r.Intn(sceneDays), nil, nil, 0, r.Intn(3))
	c.Heat = span(-r.Intn(4), r.Intn(6))
	if r.Intn(3) == 0 {
		c.Heat.Lo = c.Heat.Hi
	}
	var there []int
	for _, g := range s.b.Gauges {
		if g.Made <= c.Day && !isAway(s.b, g.ID, c.Day) {
			there = append(there, g.ID)
		}
	}
	if len(there) == 0 {
		return c, false
	}
	r.Shuffle(len(there), func(i, j int) { there[i], there[j] = there[j], there[i] })
	c.A = append(c.A, there[0])
	if len(there) > 1 && r.Intn(3) > 0 {
		c.B = append(c.B, there[1])
	}
	if len(there) > 2 && r.Intn(3) == 0 {
		c.A, c.B = append(c.A, there[2]), append(c.B, there[2])
	}
	slices.Sort(c.A)
	slices.Sort(c.B)
	if r.Intn(2) == 0 {
		c.A, c.B = c.B, c.A
	}
	shown := allShown(s.b, c, func(id int) int { return s.length(id, c.Day) })
	if len(shown) == 0 {
		return c, false
	}
	c.Diff = shown[r.Intn(len(shown))]
	if r.Intn(12) == 0 {
		c.Diff += r.Intn(9) - 4
	}
	return c, true
}

// scenes are always the same scenes.
func scenes(count, gauges, compares int) []scene {
	r := rand.New(rand.NewSource(5))
	var l []scene
	for range count {
		l = append(l, randomScene(r, gauges, compares))
	}
	return l
}

// nearby returns lists of lengths for the nodes of a scene, of which some fit.
func (s scene) nearby(t *testing.T, r *rand.Rand, count int) [][]int {
	t.Helper()
	l := [][]int{s.truth(t)}
	system, _ := mustSystem(t, s.b)
	for _, find := range []func(api.System) ([]int, api.Errno){chain.Greatest, chain.Least} {
		if x, e := find(system); e == api.OK {
			l = append(l, x[1:])
		}
	}
	for range count {
		x := slices.Clone(l[r.Intn(len(l))])
		for range 1 + r.Intn(2) {
			x[r.Intn(len(x))] += r.Intn(3) - 1
		}
		l = append(l, x)
	}
	return l
}

func mustNodes(t *testing.T, b api.Book) []api.Node {
	t.Helper()
	nodes, e := compare.Nodes(b)
	if e != api.OK {
		t.Fatal("P5.6: Nodes:", b, e)
	}
	return nodes
}

func mustSystem(t *testing.T, b api.Book) (api.System, []api.Source) {
	t.Helper()
	s, sources, e := compare.System(b)
	if e != api.OK {
		t.Fatal("P5.6: System:", b, e)
	}
	return s, sources
}

func mustFit(t *testing.T, b api.Book, lengths []int) bool {
	t.Helper()
	fits, e := compare.Fits(b, lengths)
	if e != api.OK {
		t.Fatal("P5.7: Fits:", b, lengths, e)
	}
	return fits
}

// isPossible reports whether a book has a history.
func isPossible(t *testing.T, b api.Book) bool {
	t.Helper()
	s, _ := mustSystem(t, b)
	ok, e := chain.Consistent(s)
	if e != api.OK {
		t.Fatal("P5.12: Consistent:", b, e)
	}
	return ok
}
