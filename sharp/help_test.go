package sharp_test

import (
	"math/big"
	"math/rand"
	"reflect"
	"slices"
	"testing"

	"wringing/api"
	"wringing/chain"
	"wringing/compare"
	"wringing/sharp"
)

const (
	leastInt = -1 << 63
	mostInt  = 1<<63 - 1
)

func span(lo, hi int) api.Span { return api.Span{Lo: lo, Hi: hi} }

func rat(num, den int) api.Rat { return api.Rat{Num: num, Den: den} }

func node(gauge, day int) api.Node { return api.Node{Gauge: gauge, Day: day} }

func use(gauge, day int) api.Use { return api.Use{Gauge: gauge, Day: day} }

func loan(gauge, lo, hi, wear int) api.Loan {
	return api.Loan{Gauge: gauge, Days: span(lo, hi), Wear: wear}
}

// gauge returns a gauge that was made on the day 0, does not grow, and does not wear.
func gauge(id, nominal, lo, hi int) api.Gauge {
	return api.Gauge{ID: id, Nominal: nominal, Tol: span(lo, hi), Growth: rat(0, 1)}
}

// cold returns a comparison at the temperature of reference.
func cold(id, day int, a, b []int, diff, most int) api.Compare {
	return api.Compare{ID: id, Day: day, A: a, B: b, Diff: diff, Error: most}
}

// example is the book of the chapter.
func example() api.Book {
	one, two := gauge(1, 1000, -5, 5), gauge(2, 1000, -50, 50)
	one.Growth, two.Growth = rat(1, 10), rat(1, 4)
	one.Wear = 1
	return api.Book{
		Film:     span(0, 2),
		Gauges:   []api.Gauge{one, two},
		Uses:     []api.Use{use(1, 10)},
		Loans:    []api.Loan{loan(1, 20, 29, 3)},
		Compares: []api.Compare{{ID: 7, Day: 10, A: []int{1}, B: []int{2}, Diff: -20, Error: 1, Heat: span(100, 200)}},
	}
}

// plain is a book of some gauges with the IDs 1, 2, 3 and so on, of 100 units, at most 9 more or less.
func plain(gauges int) api.Book {
	var b api.Book
	for i := range gauges {
		b.Gauges = append(b.Gauges, gauge(i+1, 100, -9, 9))
	}
	return b
}

// filled is a book that has the most gauges, uses, loans, comparisons, looks and nodes.
func filled() api.Book {
	b := plain(api.MaxGauges)
	for i := range b.Gauges {
		b.Gauges[i].Wear = i
	}
	for i := range api.MaxUses {
		b.Uses = append(b.Uses, use(1+i%api.MaxGauges, 5+i))
	}
	for i := range api.MaxLoans {
		b.Loans = append(b.Loans, loan(1+i, 60+i, 70+i, 2))
	}
	for i := range api.MaxCompares {
		b.Compares = append(b.Compares, cold(i+1, 100+i, []int{1}, nil, 100, 500))
	}
	// The looks make 7 of the 59 nodes; 12 are the days on which gauges were made, and 40 are of comparisons.
	for i := range api.MaxLooks {
		b.Looks = append(b.Looks, node(2, 200+min(i, 6)))
	}
	return b
}

// changed returns what a change makes of a deep copy of a book.
func changed(b api.Book, change func(b *api.Book)) api.Book {
	b = cloned(b)
	change(&b)
	return b
}

func cloned(b api.Book) api.Book {
	b.Gauges, b.Uses, b.Loans = slices.Clone(b.Gauges), slices.Clone(b.Uses), slices.Clone(b.Loans)
	b.Compares, b.Looks = slices.Clone(b.Compares), slices.Clone(b.Looks)
	for i := range b.Compares {
		b.Compares[i].A, b.Compares[i].B = slices.Clone(b.Compares[i].A), slices.Clone(b.Compares[i].B)
	}
	return b
}

// same reports whether two books are the same, where an empty list may be nil.
func same(a, b api.Book) bool {
	sameCompare := func(c, d api.Compare) bool {
		piles := slices.Equal(c.A, d.A) && slices.Equal(c.B, d.B)
		c.A, c.B, d.A, d.B = nil, nil, nil, nil
		return piles && reflect.DeepEqual(c, d)
	}
	return a.Film == b.Film && slices.Equal(a.Gauges, b.Gauges) && slices.Equal(a.Uses, b.Uses) && slices.Equal(a.Loans, b.Loans) &&
		slices.EqualFunc(a.Compares, b.Compares, sameCompare) && slices.Equal(a.Looks, b.Looks)
}

// isNothing reports whether a result is a zero value, where an empty list is one, too.
func isNothing(x any) bool { return x == nil || isZero(reflect.ValueOf(x)) }

func isZero(v reflect.Value) bool {
	switch v.Kind() {
	case reflect.Slice:
		return v.Len() == 0
	case reflect.Struct:
		for i := range v.NumField() {
			if !isZero(v.Field(i)) {
				return false
			}
		}
		return true
	}
	return v.IsZero()
}

// scene is a book with what each gauge truly lost on each day.
type scene struct {
	b    api.Book
	made []int   // the length of each gauge on the day on which it was made
	lost [][]int // what each gauge lost, on each day from the day 0 on
}

const sceneDays = 7 // the days of a scene are before this one

// length returns the true length of a gauge on a day.
func (s scene) length(id, day int) int {
	for i, g := range s.b.Gauges {
		if g.ID == id {
			length := s.made[i]
			for _, lost := range s.lost[i][g.Made:day] {
				length -= lost
			}
			return length
		}
	}
	panic("no such gauge")
}

// lossOn returns the loss of a day, by the words of the chapter.
func lossOn(b api.Book, g api.Gauge, day int) int {
	for _, l := range b.Loans {
		if l.Gauge == g.ID && l.Days.Lo <= day && day <= l.Days.Hi {
			return l.Wear
		}
	}
	for _, u := range b.Uses {
		if u.Gauge == g.ID && u.Day == day {
			return g.Wear
		}
	}
	return 0
}

func gaugeOf(b api.Book, id int) api.Gauge {
	return b.Gauges[slices.IndexFunc(b.Gauges, func(g api.Gauge) bool { return g.ID == id })]
}

// wholly returns the big number of an integer.
func wholly(n int) *big.Rat { return new(big.Rat).SetInt64(int64(n)) }

func plus(a, b *big.Rat) *big.Rat { return new(big.Rat).Add(a, b) }

// displays returns the least and the greatest difference that two piles can have, for lengths of the gauges, by the words of the chapter.
func displays(b api.Book, c api.Compare, length func(id int) int) (least, most *big.Rat) {
	side := func(pile []int) (fixed, slope *big.Rat, films int) {
		fixed, slope = wholly(0), wholly(0)
		for _, id := range pile {
			g := gaugeOf(b, id)
			fixed = plus(fixed, wholly(length(id)))
			slope = plus(slope, big.NewRat(int64(g.Growth.Num), int64(g.Growth.Den)))
		}
		return fixed, slope, max(len(pile), 1) - 1
	}
	fixedA, slopeA, filmsA := side(c.A)
	fixedB, slopeB, filmsB := side(c.B)
	fixed := new(big.Rat).Sub(fixedA, fixedB)
	slope := new(big.Rat).Sub(slopeA, slopeB)
	for _, t := range []int{c.Heat.Lo, c.Heat.Hi} {
		warm := plus(fixed, new(big.Rat).Mul(slope, wholly(t)))
		low := plus(warm, wholly(filmsA*b.Film.Lo-filmsB*b.Film.Hi))
		high := plus(warm, wholly(filmsA*b.Film.Hi-filmsB*b.Film.Lo))
		if least == nil || low.Cmp(least) < 0 {
			least = low
		}
		if most == nil || high.Cmp(most) > 0 {
			most = high
		}
	}
	return least, most
}

// allShown returns all differences that a comparison can show, for lengths of the gauges, by the words of the chapter.
func allShown(b api.Book, c api.Compare, length func(id int) int) []int {
	least, most := displays(b, c, length)
	first, _ := least.Float64()
	last, _ := most.Float64()
	var shown []int
	for diff := int(first) - c.Error - 2; diff <= int(last)+c.Error+2; diff++ {
		if least.Cmp(wholly(diff+c.Error)) <= 0 && most.Cmp(wholly(diff-c.Error)) >= 0 {
			shown = append(shown, diff)
		}
	}
	return shown
}

// randomScene returns a book of up to that many gauges and comparisons, most of which tell the truth.
func randomScene(r *rand.Rand, gauges, compares int) scene {
	var s scene
	s.b.Film.Lo = r.Intn(2)
	s.b.Film.Hi = s.b.Film.Lo + r.Intn(3)
	growths := []api.Rat{rat(0, 1), rat(1, 2), rat(1, 3), rat(-1, 4), rat(2, 1), rat(3, 100)}
	for i := range 1 + r.Intn(gauges) {
		g := gauge(2*i+1+r.Intn(2), 40+r.Intn(9), -r.Intn(4), r.Intn(4))
		g.Made, g.Growth, g.Wear = r.Intn(3), growths[r.Intn(len(growths))], r.Intn(4)
		s.b.Gauges = append(s.b.Gauges, g)
		s.made = append(s.made, g.Nominal+g.Tol.Lo+r.Intn(g.Tol.Hi-g.Tol.Lo+1))
	}
	for range r.Intn(9) {
		g := s.b.Gauges[r.Intn(len(s.b.Gauges))]
		s.b.Uses = append(s.b.Uses, use(g.ID, g.Made+r.Intn(sceneDays-g.Made)))
	}
	for range r.Intn(5) {
		g := s.b.Gauges[r.Intn(len(s.b.Gauges))]
		lo := g.Made + r.Intn(sceneDays-g.Made)
		l := loan(g.ID, lo, lo+r.Intn(sceneDays-lo), r.Intn(3))
		if isFree(s.b, l) {
			s.b.Loans = append(s.b.Loans, l)
		}
	}
	for _, g := range s.b.Gauges {
		var lost []int
		for day := range sceneDays {
			lost = append(lost, r.Intn(lossOn(s.b, g, day)+1))
		}
		s.lost = append(s.lost, lost)
	}
	for i := range r.Intn(compares + 1) {
		if c, ok := s.randomCompare(r, i+1); ok {
			s.b.Compares = append(s.b.Compares, c)
		}
	}
	for range r.Intn(3) {
		g := s.b.Gauges[r.Intn(len(s.b.Gauges))]
		s.b.Looks = append(s.b.Looks, node(g.ID, g.Made+r.Intn(sceneDays-g.Made)))
	}
	return s
}

// isFree reports whether a gauge is neither away nor used on a day of a loan.
func isFree(b api.Book, l api.Loan) bool {
	for day := l.Days.Lo; day <= l.Days.Hi; day++ {
		if isAway(b, l.Gauge, day) || slices.Contains(b.Uses, use(l.Gauge, day)) {
			return false
		}
	}
	return true
}

func isAway(b api.Book, id, day int) bool {
	return slices.ContainsFunc(b.Loans, func(l api.Loan) bool { return l.Gauge == id && l.Days.Lo <= day && day <= l.Days.Hi })
}

// randomCompare returns a comparison that has one of the differences that it can have shown, or, seldom, another one.
func (s scene) randomCompare(r *rand.Rand, id int) (api.Compare, bool) {
	c := cold(id, r.Intn(sceneDays), nil, nil, 0, r.Intn(3))
	c.Heat = span(-r.Intn(4), r.Intn(6))
	if r.Intn(3) == 0 {
		c.Heat.Lo = c.Heat.Hi
	}
	var there []int
	for _, g := range s.b.Gauges {
		if g.Made <= c.Day && !isAway(s.b, g.ID, c.Day) {
			there = append(there, g.ID)
		}
	}
	if len(there) == 0 {
		return c, false
	}
	r.Shuffle(len(there), func(i, j int) { there[i], there[j] = there[j], there[i] })
	c.A = append(c.A, there[0])
	if len(there) > 1 && r.Intn(3) > 0 {
		c.B = append(c.B, there[1])
	}
	if len(there) > 2 && r.Intn(3) == 0 {
		c.A, c.B = append(c.A, there[2]), append(c.B, there[2])
	}
	slices.Sort(c.A)
	slices.Sort(c.B)
	if r.Intn(2) == 0 {
		c.A, c.B = c.B, c.A
	}
	shown := allShown(s.b, c, func(id int) int { return s.length(id, c.Day) })
	if len(shown) == 0 {
		return c, false
	}
	c.Diff = shown[r.Intn(len(shown))]
	if r.Intn(12) == 0 {
		c.Diff += r.Intn(9) - 4
	}
	return c, true
}

// scenes are always the same scenes.
func scenes(count, gauges, compares int) []scene {
	r := rand.New(rand.NewSource(5))
	var l []scene
	for range count {
		l = append(l, randomScene(r, gauges, compares))
	}
	return l
}

// given are the arguments of a call beside the book.
type given struct {
	n, m      api.Node
	upper, in bool
	day       int
	ids, x, y []int
	limits    api.Span
	other     api.Book
	cert      api.Cert
	c         api.Compare
	l         []api.Compare
}

// call is a function of the package with a book.
type call struct {
	name string
	run  func(b api.Book, g given) (any, api.Errno)
}

func result[T any](x T, e api.Errno) (any, api.Errno) { return x, e }

// calls are all functions with a book and a node.
func calls() []call {
	return []call{
		{"Interval", func(b api.Book, g given) (any, api.Errno) { return result(sharp.Interval(b, g.n)) }},
		{"Between", func(b api.Book, g given) (any, api.Errno) { return result(sharp.Between(b, g.m, g.n)) }},
		{"Pile", func(b api.Book, g given) (any, api.Errno) { return result(sharp.Pile(b, g.day, g.ids)) }},
		{"Differ", func(b api.Book, g given) (any, api.Errno) { return result(sharp.Differ(b, g.day, g.x, g.y)) }},
		{"History", func(b api.Book, g given) (any, api.Errno) { return result(sharp.History(b, g.n, g.upper)) }},
		{"Judge", func(b api.Book, g given) (any, api.Errno) { return result(sharp.Judge(b, g.n, g.limits)) }},
		{"Witness", func(b api.Book, g given) (any, api.Errno) { return result(sharp.Witness(b, g.n, g.limits, g.in)) }},
		{"Certify", func(b api.Book, g given) (any, api.Errno) { return result(sharp.Certify(b, g.n, g.upper)) }},
		{"Worst", func(b api.Book, g given) (any, api.Errno) { return result(sharp.Worst(b, g.n, g.c)) }},
		{"Best", func(b api.Book, g given) (any, api.Errno) { return result(sharp.Best(b, g.n, g.l)) }},
		{"Settles", func(b api.Book, g given) (any, api.Errno) { return result(sharp.Settles(b, g.n, g.limits, g.c)) }},
	}
}

// plainCalls are the functions with a book, but without a node.
func plainCalls() []call {
	return []call{
		{"Intervals", func(b api.Book, g given) (any, api.Errno) { return result(sharp.Intervals(b)) }},
		{"Clash", func(b api.Book, g given) (any, api.Errno) { return result(sharp.Clash(b)) }},
		{"Part", func(b api.Book, g given) (any, api.Errno) { return result(sharp.Part(g.other, b)) }},
		{"Part of", func(b api.Book, g given) (any, api.Errno) { return result(sharp.Part(b, g.other)) }},
		{"Stands", func(b api.Book, g given) (any, api.Errno) { return result(sharp.Stands(b, g.cert)) }},
		{"CheckCert", func(b api.Book, g given) (any, api.Errno) {
			g.cert.Book = b
			return nil, sharp.CheckCert(g.cert)
		}},
		{"CheckClash", func(b api.Book, g given) (any, api.Errno) {
			g.cert.Book = b
			return nil, sharp.CheckClash(g.cert)
		}},
		{"Print", func(b api.Book, g given) (any, api.Errno) {
			g.cert.Book = b
			return result(sharp.Print(g.cert))
		}},
	}
}

// exampleGiven are arguments for which all functions but Clash and CheckClash have a result with the book of the chapter.
func exampleGiven() given {
	return given{
		n: node(2, 10), m: node(1, 10), day: 10, ids: []int{1, 2}, x: []int{1}, y: []int{2}, in: true,
		limits: span(990, 1010), other: example(), c: cold(8, 10, []int{1}, []int{2}, 5, 0),
		cert: api.Cert{Book: example(), Node: node(2, 10), Upper: true, Value: 1011, Chain: []int{0, 2, 9}},
		l:    []api.Compare{cold(8, 12, []int{1}, []int{2}, 5, 3), cold(8, 10, nil, []int{2}, 7, 1)},
	}
}

// contradiction is the book of the chapter with a comparison that cannot be.
func contradiction() api.Book {
	return changed(example(), func(b *api.Book) { b.Compares = append(b.Compares, cold(9, 10, nil, []int{2}, -1020, 3)) })
}

// hot is a comparison like another one, at temperatures of a span.
func hot(c api.Compare, lo, hi int) api.Compare {
	c.Heat = span(lo, hi)
	return c
}

// histories returns the lengths of all histories of a book, or ok is false if they are too many.
func histories(t *testing.T, b api.Book) (all [][]int, ok bool) {
	t.Helper()
	nodes := mustNodes(t, b)
	at := map[api.Node]int{}
	var enter func(i int) bool
	enter = func(i int) bool {
		if i == len(nodes) {
			var lengths []int
			for _, n := range nodes {
				lengths = append(lengths, at[n])
			}
			all = append(all, lengths)
			return len(all) < 6000
		}
		n := nodes[i]
		g := gaugeOf(b, n.Gauge)
		least, most := g.Nominal+g.Tol.Lo, g.Nominal+g.Tol.Hi
		if n.Day > g.Made {
			most = at[nodes[i-1]]
			least = most
			for day := nodes[i-1].Day; day < n.Day && day <= sceneDays; day++ {
				least -= lossOn(b, g, day)
			}
		}
		for length := least; length <= most; length++ {
			at[n] = length
			if fitsSoFar(t, b, nodes[:i+1], at) && !enter(i+1) {
				return false
			}
		}
		return true
	}
	ok = enter(0)
	return all, ok
}

// fitsSoFar reports whether the comparisons of the last node, with nodes before it, allow the lengths.
func fitsSoFar(t *testing.T, b api.Book, nodes []api.Node, at map[api.Node]int) bool {
	t.Helper()
	last := nodes[len(nodes)-1]
	for i, c := range b.Compares {
		x, y, _ := compare.Cancel(c.A, c.B)
		difference, has, whole := 0, false, c.Day == last.Day
		for sign, ids := range map[int][]int{1: x, -1: y} {
			for _, id := range ids {
				n := node(id, c.Day)
				has = has || n == last
				whole = whole && slices.Contains(nodes, n)
				difference += sign * at[n]
			}
		}
		if !has || !whole {
			continue
		}
		if says, e := compare.Says(b, i); e != api.OK || difference < says.Lo || difference > says.Hi {
			return false
		}
	}
	return true
}

// lookedAt returns a book with looks at some nodes.
func lookedAt(b api.Book, nodes ...api.Node) api.Book {
	for _, n := range nodes {
		if !slices.Contains(b.Looks, n) {
			b = changed(b, func(b *api.Book) { b.Looks = append(b.Looks, n) })
		}
	}
	return b
}

func mustNodes(t *testing.T, b api.Book) []api.Node {
	t.Helper()
	nodes, e := compare.Nodes(b)
	if e != api.OK {
		t.Fatal("P5.6: Nodes:", b, e)
	}
	return nodes
}

func mustSystem(t *testing.T, b api.Book) api.System {
	t.Helper()
	s, _, e := compare.System(b)
	if e != api.OK {
		t.Fatal("P5.6: System:", b, e)
	}
	return s
}

// isPossible reports whether a book has a history.
func isPossible(t *testing.T, b api.Book) bool {
	t.Helper()
	ok, e := chain.Consistent(mustSystem(t, b))
	if e != api.OK {
		t.Fatal("P5.12: Consistent:", b, e)
	}
	return ok
}

func mustInterval(t *testing.T, b api.Book, n api.Node) api.Span {
	t.Helper()
	interval, e := sharp.Interval(b, n)
	if e != api.OK {
		t.Fatal("P6.1: Interval:", b, n, e)
	}
	return interval
}

func within(s api.Span, n int) bool { return s.Lo <= n && n <= s.Hi }

// ends is the least span that has some numbers.
type ends struct {
	span api.Span
	any  bool
}

func (e *ends) add(n int) {
	if !e.any {
		*e = ends{span(n, n), true}
	}
	e.span = span(min(e.span.Lo, n), max(e.span.Hi, n))
}
