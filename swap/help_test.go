package swap_test

import (
	"math/rand"
	"reflect"
	"slices"
	"testing"

	"wringing/api"
	"wringing/chain"
	"wringing/compare"
	"wringing/swap"
)

const (
	leastInt = -1 << 63
	mostInt  = 1<<63 - 1
)

func span(lo, hi int) api.Span { return api.Span{Lo: lo, Hi: hi} }

func rat(num, den int) api.Rat { return api.Rat{Num: num, Den: den} }

func node(gauge, day int) api.Node { return api.Node{Gauge: gauge, Day: day} }

func use(gauge, day int) api.Use { return api.Use{Gauge: gauge, Day: day} }

func loan(gauge, lo, hi, wear int) api.Loan {
	return api.Loan{Gauge: gauge, Days: span(lo, hi), Wear: wear}
}

func mix(day int, labels ...int) api.Mix { return api.Mix{Day: day, Labels: labels} }

func could(gauge, lo, hi int) api.Could { return api.Could{Gauge: gauge, Len: span(lo, hi)} }

// gauge returns a gauge that was made on the day 0, does not grow, and does not wear.
func gauge(id, nominal, lo, hi int) api.Gauge {
	return api.Gauge{ID: id, Nominal: nominal, Tol: span(lo, hi), Growth: rat(0, 1)}
}

// cold returns a comparison at the temperature of reference.
func cold(id, day int, a, b []int, diff, most int) api.Compare {
	return api.Compare{ID: id, Day: day, A: a, B: b, Diff: diff, Error: most}
}

// The comparisons of the chapter.
func eight() api.Compare { return cold(8, 15, []int{2}, []int{1}, 100, 1) }
func nine() api.Compare  { return cold(9, 15, []int{3}, nil, 1100, 0) }
func ten() api.Compare   { return cold(10, 16, []int{1}, nil, 2000, 0) }

// example is the case m of the chapter, with further comparisons.
func example(more ...api.Compare) api.Mixed {
	one, two := gauge(1, 1000, -5, 5), gauge(2, 1000, -50, 50)
	one.Growth, two.Growth = rat(1, 10), rat(1, 4)
	one.Wear = 1
	b := api.Book{
		Film:     span(0, 2),
		Gauges:   []api.Gauge{one, two, gauge(3, 1100, -1, 1)},
		Uses:     []api.Use{use(1, 10)},
		Loans:    []api.Loan{loan(1, 20, 29, 3)},
		Compares: []api.Compare{{ID: 7, Day: 10, A: []int{1}, B: []int{2}, Diff: -20, Error: 1, Heat: span(100, 200)}},
	}
	b.Compares = append(b.Compares, more...)
	return api.Mixed{Book: b, Mixes: []api.Mix{mix(12, 2, 3)}}
}

// box is a case of some gauges with the IDs 1, 2, 3 and so on, of 100, 110, 120 units and so on, at most 2 more or less.
func box(gauges int, mixes ...api.Mix) api.Mixed {
	m := api.Mixed{Mixes: mixes}
	for i := range gauges {
		m.Book.Gauges = append(m.Book.Gauges, gauge(i+1, 100+10*i, -2, 2))
	}
	return m
}

// shown returns a case with comparisons of single labels with nothing: of each one the label, the day and the length.
func shown(m api.Mixed, seen ...[3]int) api.Mixed {
	return changed(m, func(m *api.Mixed) {
		for i, x := range seen {
			m.Book.Compares = append(m.Book.Compares, cold(i+1, x[1], []int{x[0]}, nil, x[2], 0))
		}
	})
}

// filled is a case that has the most gauges, uses, loans, comparisons, looks and nodes, and 144 ways.
func filled() api.Mixed {
	m := box(api.MaxGauges, mix(50, 1, 2, 3, 4), mix(90, 2, 5, 7))
	b := &m.Book
	for i := range b.Gauges {
		b.Gauges[i].Nominal, b.Gauges[i].Tol, b.Gauges[i].Wear = 100, span(-9, 9), i
	}
	for i := range api.MaxUses {
		b.Uses = append(b.Uses, use(1+i%api.MaxGauges, 5+i))
	}
	for i := range api.MaxLoans {
		b.Loans = append(b.Loans, loan(1+i, 60+i, 70+i, 2))
	}
	for i := range api.MaxCompares {
		b.Compares = append(b.Compares, cold(i+1, 100+i, []int{1 + i%2, 6}, []int{6}, 100, 500))
	}
	// The looks make 7 of the 59 nodes; 12 are the days on which gauges were made, and 40 are of comparisons.
	for i := range api.MaxLooks {
		b.Looks = append(b.Looks, node(2, 200+min(i, 6)))
	}
	return m
}

// changed returns what a change makes of a deep copy of a case.
func changed(m api.Mixed, change func(m *api.Mixed)) api.Mixed {
	m = cloned(m)
	change(&m)
	return m
}

func cloned(m api.Mixed) api.Mixed {
	b := &m.Book
	b.Gauges, b.Uses, b.Loans = slices.Clone(b.Gauges), slices.Clone(b.Uses), slices.Clone(b.Loans)
	b.Compares, b.Looks = slices.Clone(b.Compares), slices.Clone(b.Looks)
	for i, c := range b.Compares {
		b.Compares[i].A, b.Compares[i].B = slices.Clone(c.A), slices.Clone(c.B)
	}
	m.Mixes = slices.Clone(m.Mixes)
	for i, x := range m.Mixes {
		m.Mixes[i].Labels = slices.Clone(x.Labels)
	}
	return m
}

// sameBook reports whether two books are the same, where an empty list may be nil.
func sameBook(a, b api.Book) bool {
	sameCompare := func(c, d api.Compare) bool {
		piles := slices.Equal(c.A, d.A) && slices.Equal(c.B, d.B)
		c.A, c.B, d.A, d.B = nil, nil, nil, nil
		return piles && reflect.DeepEqual(c, d)
	}
	return a.Film == b.Film && slices.Equal(a.Gauges, b.Gauges) && slices.Equal(a.Uses, b.Uses) && slices.Equal(a.Loans, b.Loans) &&
		slices.EqualFunc(a.Compares, b.Compares, sameCompare) && slices.Equal(a.Looks, b.Looks)
}

func same(m, n api.Mixed) bool {
	sameMix := func(x, y api.Mix) bool { return x.Day == y.Day && slices.Equal(x.Labels, y.Labels) }
	return sameBook(m.Book, n.Book) && slices.EqualFunc(m.Mixes, n.Mixes, sameMix)
}

// sameLists reports whether two lists of lists are the same, where an empty list may be nil.
func sameLists(a, b [][]int) bool { return slices.EqualFunc(a, b, slices.Equal[[]int]) }

func sameWays(a, b [][][]int) bool { return slices.EqualFunc(a, b, sameLists) }

// isNothing reports whether a result is a zero value, where an empty list is one, too.
func isNothing(x any) bool { return x == nil || isZero(reflect.ValueOf(x)) }

func isZero(v reflect.Value) bool {
	switch v.Kind() {
	case reflect.Slice:
		return v.Len() == 0
	case reflect.Struct:
		for i := range v.NumField() {
			if !isZero(v.Field(i)) {
				return false
			}
		}
		return true
	}
	return v.IsZero()
}

// waysOf returns the ways of a case, by the words of the chapter: all lists of labels are tried.
func waysOf(m api.Mixed) [][][]int {
	ways := [][][]int{nil}
	for _, x := range m.Mixes {
		lists := [][]int{nil}
		for range x.Labels {
			var longer [][]int
			for _, list := range lists {
				for _, label := range x.Labels {
					if !slices.Contains(list, label) {
						longer = append(longer, slices.Concat(list, []int{label}))
					}
				}
			}
			lists = longer
		}
		var more [][][]int
		for _, way := range ways {
			for _, list := range lists {
				more = append(more, slices.Concat(way, [][]int{list}))
			}
		}
		ways = more
	}
	slices.SortFunc(ways, func(a, b [][]int) int {
		if d := weightOf(m, a) - weightOf(m, b); d != 0 {
			return d
		}
		return slices.Compare(slices.Concat(a...), slices.Concat(b...))
	})
	return ways
}

// weightOf returns the weight of a way, by the words of the chapter.
func weightOf(m api.Mixed, way [][]int) int {
	n := 0
	for i, x := range m.Mixes {
		for place, label := range x.Labels {
			if slices.Index(way[i], label) != place {
				n++
			}
		}
	}
	return n
}

// whoBears returns the gauge of a label on a day, by the words of the chapter.
func whoBears(m api.Mixed, way [][]int, label, day int) int {
	for i := len(m.Mixes) - 1; i >= 0; i-- {
		if m.Mixes[i].Day >= day {
			continue
		}
		if place := slices.Index(way[i], label); place >= 0 {
			label = m.Mixes[i].Labels[place]
		}
	}
	return label
}

// borneBy returns the label of a gauge on a day: it goes from each mix-up to the next one.
func borneBy(m api.Mixed, way [][]int, gauge, day int) int {
	label := gauge
	for i, x := range m.Mixes {
		if place := slices.Index(x.Labels, label); place >= 0 && x.Day < day {
			label = way[i][place]
		}
	}
	return label
}

// renamed returns a book whose IDs are told by a function of an ID and a day.
func renamed(b api.Book, name func(id, day int) int) api.Book {
	return changed(api.Mixed{Book: b}, func(m *api.Mixed) {
		for i, u := range m.Book.Uses {
			m.Book.Uses[i].Gauge = name(u.Gauge, u.Day)
		}
		for i, l := range m.Book.Loans {
			m.Book.Loans[i].Gauge = name(l.Gauge, l.Days.Lo)
		}
		for _, c := range m.Book.Compares {
			for _, pile := range [][]int{c.A, c.B} {
				for j, id := range pile {
					pile[j] = name(id, c.Day)
				}
				slices.Sort(pile)
			}
		}
		for i, n := range m.Book.Looks {
			m.Book.Looks[i].Gauge = name(n.Gauge, n.Day)
		}
	}).Book
}

// translationOf returns the translation of a book by a way, by the words of the chapter.
func translationOf(m api.Mixed, way [][]int) api.Book {
	return renamed(m.Book, func(label, day int) int { return whoBears(m, way, label, day) })
}

// explaining returns the ways that explain a case, by the words of the chapter.
func explaining(t *testing.T, m api.Mixed) [][][]int {
	t.Helper()
	return slices.DeleteFunc(waysOf(m), func(way [][]int) bool { return !isPossible(t, translationOf(m, way)) })
}

// onlyOf returns the case of some comparisons.
func onlyOf(m api.Mixed, ids []int) api.Mixed {
	return changed(m, func(m *api.Mixed) {
		m.Book.Compares = slices.DeleteFunc(m.Book.Compares, func(c api.Compare) bool { return !slices.Contains(ids, c.ID) })
	})
}

// idsOf returns the IDs of the comparisons of a case.
func idsOf(m api.Mixed) []int {
	var ids []int
	for _, c := range m.Book.Compares {
		ids = append(ids, c.ID)
	}
	return ids
}

// isPossible reports whether a book has a history.
func isPossible(t *testing.T, b api.Book) bool {
	t.Helper()
	s, _, e := compare.System(b)
	if e != api.OK {
		t.Fatal("P7.14: not a valid book:", b, e)
	}
	ok, e := chain.Consistent(s)
	if e != api.OK {
		t.Fatal("P5.12: Consistent:", b, e)
	}
	return ok
}

// given are the arguments of a call beside the case.
type given struct {
	way               [][]int
	label, gauge, day int
	ids, lengths      []int
	chains            [][]int
	x                 api.Mix
}

// call is a function of the package with a case.
type call struct {
	name string
	run  func(m api.Mixed, g given) (any, api.Errno)
}

func result[T any](x T, e api.Errno) (any, api.Errno) { return x, e }

// calls are all functions with a case but Check.
func calls() []call {
	return []call{
		{"Ways", func(m api.Mixed, g given) (any, api.Errno) { return result(swap.Ways(m)) }},
		{"Weight", func(m api.Mixed, g given) (any, api.Errno) { return result(swap.Weight(m, g.way)) }},
		{"Who", func(m api.Mixed, g given) (any, api.Errno) { return result(swap.Who(m, g.way, g.label, g.day)) }},
		{"Label", func(m api.Mixed, g given) (any, api.Errno) { return result(swap.Label(m, g.way, g.gauge, g.day)) }},
		{"Translate", func(m api.Mixed, g given) (any, api.Errno) { return result(swap.Translate(m, g.way)) }},
		{"Explains", func(m api.Mixed, g given) (any, api.Errno) { return result(swap.Explains(m, g.way)) }},
		{"All", func(m api.Mixed, g given) (any, api.Errno) { return result(swap.All(m)) }},
		{"Least", func(m api.Mixed, g given) (any, api.Errno) { return result(swap.Least(m)) }},
		{"Coulds", func(m api.Mixed, g given) (any, api.Errno) { return result(swap.Coulds(m, g.label, g.day)) }},
		{"Sure", func(m api.Mixed, g given) (any, api.Errno) { return result(swap.Sure(m)) }},
		{"Explained", func(m api.Mixed, g given) (any, api.Errno) { return result(swap.Explained(m, g.ids)) }},
		{"Withdrawn", func(m api.Mixed, g given) (any, api.Errno) { return result(swap.Withdrawn(m, g.label)) }},
		{"Core", func(m api.Mixed, g given) (any, api.Errno) { return result(swap.Core(m)) }},
		{"Shortest", func(m api.Mixed, g given) (any, api.Errno) { return result(swap.Shortest(m, g.ids)) }},
		{"Prove", func(m api.Mixed, g given) (any, api.Errno) { return result(swap.Prove(m)) }},
		{"CheckProof", func(m api.Mixed, g given) (any, api.Errno) { return nil, swap.CheckProof(m, g.chains) }},
		{"CheckWay", func(m api.Mixed, g given) (any, api.Errno) { return nil, swap.CheckWay(m, g.way, g.lengths) }},
		{"With", func(m api.Mixed, g given) (any, api.Errno) { return result(swap.With(m, g.x)) }},
		{"Print", func(m api.Mixed, g given) (any, api.Errno) { return result(swap.Print(m)) }},
	}
}

// scene is a case with the way in which labels truly were exchanged, and with what each gauge truly lost on each day.
type scene struct {
	m    api.Mixed
	way  [][]int
	b    api.Book // of the gauges
	made []int    // the length of each gauge on the day on which it was made
	lost [][]int  // what each gauge lost, on each day from the day 0 on
}

const sceneDays = 8 // the days of a scene are before this one

// length returns the true length of a gauge on a day.
func (s scene) length(id, day int) int {
	for i, g := range s.b.Gauges {
		if g.ID == id {
			length := s.made[i]
			for _, lost := range s.lost[i][g.Made:day] {
				length -= lost
			}
			return length
		}
	}
	panic("no such gauge")
}

// truth returns the true lengths at the nodes of a book of the gauges.
func (s scene) truth(t *testing.T, b api.Book) []int {
	t.Helper()
	nodes, e := compare.Nodes(b)
	if e != api.OK {
		t.Fatal("P5.6: Nodes:", b, e)
	}
	var lengths []int
	for _, n := range nodes {
		lengths = append(lengths, s.length(n.Gauge, n.Day))
	}
	return lengths
}

// lossOn returns the loss of a day of a gauge.
func lossOn(b api.Book, g api.Gauge, day int) int {
	for _, l := range b.Loans {
		if l.Gauge == g.ID && l.Days.Lo <= day && day <= l.Days.Hi {
			return l.Wear
		}
	}
	if slices.Contains(b.Uses, use(g.ID, day)) {
		return g.Wear
	}
	return 0
}

// randomScene returns a case of up to that many gauges, mix-ups and comparisons. Some comparisons lie, if it is not honest.
func randomScene(r *rand.Rand, gauges, mixes, compares int, honest bool) (scene, bool) {
	var s scene
	s.b.Film.Lo = r.Intn(2)
	s.b.Film.Hi = s.b.Film.Lo + r.Intn(2)
	growths := []api.Rat{rat(0, 1), rat(0, 1), rat(1, 2), rat(-1, 3)}
	for i := range 1 + r.Intn(gauges) {
		g := gauge(2*i+1+r.Intn(2), 40+3*r.Intn(4), -r.Intn(3), r.Intn(3))
		g.Made, g.Growth, g.Wear = r.Intn(2), growths[r.Intn(len(growths))], r.Intn(3)
		s.b.Gauges = append(s.b.Gauges, g)
		s.made = append(s.made, g.Nominal+g.Tol.Lo+r.Intn(g.Tol.Hi-g.Tol.Lo+1))
	}
	s.mixUp(r, mixes)
	for range r.Intn(8) {
		g := s.b.Gauges[r.Intn(len(s.b.Gauges))]
		s.b.Uses = append(s.b.Uses, use(g.ID, g.Made+r.Intn(sceneDays-g.Made)))
	}
	for range r.Intn(3) {
		g := s.b.Gauges[r.Intn(len(s.b.Gauges))]
		lo := g.Made + r.Intn(sceneDays-g.Made)
		s.b.Loans = append(s.b.Loans, loan(g.ID, lo, min(lo+r.Intn(3), sceneDays-1), r.Intn(3)))
	}
	for _, g := range s.b.Gauges {
		var lost []int
		for day := range sceneDays {
			lost = append(lost, r.Intn(lossOn(s.b, g, day)+1))
		}
		s.lost = append(s.lost, lost)
	}
	for i := range r.Intn(compares + 1) {
		s.b.Compares = append(s.b.Compares, s.randomCompare(r, compares-i, honest))
	}
	for range r.Intn(3) {
		g := s.b.Gauges[r.Intn(len(s.b.Gauges))]
		s.b.Looks = append(s.b.Looks, node(g.ID, g.Made+r.Intn(sceneDays-g.Made)))
	}
	s.m.Book = renamed(s.b, func(id, day int) int { return borneBy(s.m, s.way, id, day) })
	// A comparison of what is away, or a use of it, makes a book that is not valid.
	return s, swap.Check(s.m) == api.OK
}

// mixUp gives a scene some mix-ups, and what truly happened.
func (s *scene) mixUp(r *rand.Rand, mixes int) {
	for day := 1; day < sceneDays-1; day++ {
		if len(s.m.Mixes) == mixes || r.Intn(2) == 0 {
			continue
		}
		x := mix(day)
		for _, g := range s.b.Gauges {
			if len(x.Labels) < 3 && r.Intn(4) > 0 {
				x.Labels = append(x.Labels, g.ID)
			}
		}
		if len(x.Labels) < 2 {
			continue
		}
		list := slices.Clone(x.Labels)
		r.Shuffle(len(list), func(i, j int) { list[i], list[j] = list[j], list[i] })
		s.m.Mixes = append(s.m.Mixes, x)
		s.way = append(s.way, list)
	}
}

// randomCompare returns a comparison at one temperature, without rounding.
func (s scene) randomCompare(r *rand.Rand, id int, honest bool) api.Compare {
	c := cold(id, 1+r.Intn(sceneDays-1), nil, nil, 0, r.Intn(2))
	order := r.Perm(len(s.b.Gauges))
	heat := 6 * (r.Intn(3) - 1)
	c.Heat = span(heat-r.Intn(2), heat+r.Intn(2))
	side := func(pile *[]int, which int) int {
		g := s.b.Gauges[order[which]]
		*pile = append(*pile, g.ID)
		return s.length(g.ID, c.Day) + g.Growth.Num*heat/g.Growth.Den
	}
	c.Diff = side(&c.A, 0)
	if len(order) > 1 && r.Intn(4) > 0 {
		c.Diff -= side(&c.B, 1)
	}
	if len(order) > 2 && len(c.B) > 0 && r.Intn(3) == 0 {
		side(&c.A, 2)
		side(&c.B, 2)
	}
	slices.Sort(c.A)
	slices.Sort(c.B)
	c.Diff += r.Intn(2*c.Error+1) - c.Error
	if !honest && r.Intn(4) == 0 {
		c.Diff += r.Intn(9) - 4
	}
	if r.Intn(2) == 0 {
		c.A, c.B, c.Diff = c.B, c.A, -c.Diff
	}
	return c
}

// scenes are always the same scenes.
func scenes(count, gauges, mixes, compares int, honest bool) []scene {
	r := rand.New(rand.NewSource(7))
	var l []scene
	for len(l) < count {
		if s, ok := randomScene(r, gauges, mixes, compares, honest); ok {
			l = append(l, s)
		}
	}
	return l
}

// cases are those of the chapter, some of which are not explained, and those of scenes.
func cases(count int, honest bool) []api.Mixed {
	l := []api.Mixed{
		{}, example(), example(eight()), example(eight(), nine()), example(ten()), example(eight(), ten(), nine()),
		box(3, mix(3, 1, 2, 3), mix(7, 2, 3)), shown(box(3, mix(3, 1, 2, 3)), [3]int{1, 5, 110}, [3]int{2, 5, 120}, [3]int{3, 5, 101}),
	}
	for _, s := range scenes(count, 4, 3, 6, honest) {
		l = append(l, s.m)
	}
	return l
}
