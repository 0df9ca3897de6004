package room_test

import (
	"cmp"
	"math/rand"
	"reflect"
	"slices"
	"testing"

	"wringing/api"
	"wringing/room"
	"wringing/swap"
)

const (
	leastInt = -1 << 63
	mostInt  = 1<<63 - 1
)

func span(lo, hi int) api.Span { return api.Span{Lo: lo, Hi: hi} }

func rat(num, den int) api.Rat { return api.Rat{Num: num, Den: den} }

func use(gauge, day int) api.Use { return api.Use{Gauge: gauge, Day: day} }

func loan(gauge, lo, hi, wear int) api.Loan {
	return api.Loan{Gauge: gauge, Days: span(lo, hi), Wear: wear}
}

func mix(day int, labels ...int) api.Mix { return api.Mix{Day: day, Labels: labels} }

func name(room, no int) api.Name { return api.Name{Room: room, No: no} }

func could(gauge, lo, hi int) api.Could { return api.Could{Gauge: gauge, Len: span(lo, hi)} }

// gauge returns a gauge that was made on the day 0, does not grow, and does not wear.
func gauge(id, nominal, lo, hi int) api.Gauge {
	return api.Gauge{ID: id, Nominal: nominal, Tol: span(lo, hi), Growth: rat(0, 1)}
}

// cold returns a comparison at the temperature of reference.
func cold(day int, a, b []int, diff, most int) api.Compare {
	return api.Compare{Day: day, A: a, B: b, Diff: diff, Error: most}
}

// fact returns a fact of the kind that what it is about has: a span is a film, and a name is a withdrawal.
func fact(room, no, known int, what any) api.Fact {
	f := api.Fact{Room: room, No: no, Known: known}
	switch x := what.(type) {
	case api.Span:
		f.Kind, f.Film = api.FaFilm, x
	case api.Gauge:
		f.Kind, f.Gauge = api.FaGauge, x
	case api.Use:
		f.Kind, f.Use = api.FaUse, x
	case api.Loan:
		f.Kind, f.Loan = api.FaLoan, x
	case api.Compare:
		f.Kind, f.Compare = api.FaCompare, x
	case api.Mix:
		f.Kind, f.Mix = api.FaMix, x
	case api.Name:
		f.Kind, f.Target = api.FaWithdraw, x
	}
	return f
}

// facts returns facts of a room that became known at a time, with the numbers from one on.
func facts(room, no, known int, about ...any) []api.Fact {
	var l []api.Fact
	for i, what := range about {
		l = append(l, fact(room, no+i, known, what))
	}
	return l
}

// example are the facts of the chapter.
func example() []api.Fact {
	one, two := gauge(1, 1000, -5, 5), gauge(2, 1000, -50, 50)
	one.Growth, two.Growth = rat(1, 10), rat(1, 4)
	one.Wear = 1
	seven := api.Compare{Day: 10, A: []int{1}, B: []int{2}, Diff: -20, Error: 1, Heat: span(100, 200)}
	return slices.Concat(
		facts(1, 1, 5, span(0, 2), one, two, gauge(3, 1100, -1, 1), use(1, 10), seven),
		facts(2, 1, 9, mix(12, 2, 3), cold(15, []int{2}, []int{1}, 100, 1)),
		facts(2, 3, 12, cold(15, []int{3}, nil, 1100, 0)),
		facts(2, 4, 20, name(2, 3)),
	)
}

// inBox are facts of the room 1, at the time 1: some gauges with the IDs 1, 2, 3 and so on, of 100, 110, 120 units and so on, at most 2 more or less, and what is further known.
func inBox(gauges int, more ...any) []api.Fact {
	var about []any
	for i := range gauges {
		about = append(about, gauge(i+1, 100+10*i, -2, 2))
	}
	return facts(1, 1, 1, append(about, more...)...)
}

func cloned(l []api.Fact) []api.Fact {
	l = slices.Clone(l)
	for i, f := range l {
		l[i].Compare.A, l[i].Compare.B = slices.Clone(f.Compare.A), slices.Clone(f.Compare.B)
		l[i].Mix.Labels = slices.Clone(f.Mix.Labels)
	}
	return l
}

// tidy is a fact whose empty lists are nil.
func tidy(f api.Fact) api.Fact {
	for _, l := range []*[]int{&f.Compare.A, &f.Compare.B, &f.Mix.Labels} {
		if len(*l) == 0 {
			*l = nil
		}
	}
	return f
}

func same(a, b api.Fact) bool { return reflect.DeepEqual(tidy(a), tidy(b)) }

func sameFacts(a, b []api.Fact) bool { return slices.EqualFunc(a, b, same) }

// sameCase reports whether two cases are the same, where an empty list may be nil.
func sameCase(m, n api.Mixed) bool {
	sameCompare := func(c, d api.Compare) bool {
		return same(api.Fact{Compare: c}, api.Fact{Compare: d})
	}
	sameMix := func(x, y api.Mix) bool { return x.Day == y.Day && slices.Equal(x.Labels, y.Labels) }
	a, b := m.Book, n.Book
	return a.Film == b.Film && slices.Equal(a.Gauges, b.Gauges) && slices.Equal(a.Uses, b.Uses) && slices.Equal(a.Loans, b.Loans) &&
		slices.EqualFunc(a.Compares, b.Compares, sameCompare) && slices.Equal(a.Looks, b.Looks) && slices.EqualFunc(m.Mixes, n.Mixes, sameMix)
}

func nameOf(f api.Fact) api.Name { return name(f.Room, f.No) }

func namesOf(l []api.Fact) []api.Name {
	var names []api.Name
	for _, f := range l {
		names = append(names, nameOf(f))
	}
	return names
}

func compareNames(a, b api.Name) int {
	return cmp.Or(cmp.Compare(a.Room, b.Room), cmp.Compare(a.No, b.No))
}

// without returns the facts of a list that do not have a name.
func without(l []api.Fact, n api.Name) []api.Fact {
	return slices.DeleteFunc(slices.Clone(l), func(f api.Fact) bool { return nameOf(f) == n })
}

// stands reports whether a fact of a list stands at a time, by the words of the chapter.
func stands(l []api.Fact, f api.Fact, known int) bool {
	if f.Known > known {
		return false
	}
	if f.Kind == api.FaWithdraw {
		return true
	}
	for _, w := range l {
		if w.Kind == api.FaWithdraw && w.Known <= known && w.Target == nameOf(f) {
			return false
		}
	}
	return true
}

// isLater reports whether a fact is later than another one, by the words of the chapter.
func isLater(a, b api.Fact) bool {
	if a.Known == b.Known {
		return compareNames(nameOf(a), nameOf(b)) > 0
	}
	return a.Known > b.Known
}

// caseOf returns the case of a list at a time, by the words of the chapter, valid or not.
func caseOf(l []api.Fact, known int) api.Mixed {
	var standing []api.Fact
	for i, f := range l {
		again := slices.ContainsFunc(l[:i], func(g api.Fact) bool { return nameOf(g) == nameOf(f) })
		if stands(l, f, known) && !again {
			standing = append(standing, f)
		}
	}
	// A fact is replaced if a later one is about the same.
	isReplaced := func(f api.Fact) bool {
		return slices.ContainsFunc(standing, func(g api.Fact) bool {
			about := g.Kind == f.Kind && g.Gauge.ID == f.Gauge.ID && g.Mix.Day == f.Mix.Day
			return about && isLater(g, f)
		})
	}
	slices.SortFunc(standing, func(f, g api.Fact) int { return compareNames(nameOf(f), nameOf(g)) })
	var m api.Mixed
	for _, f := range standing {
		b := &m.Book
		switch {
		case f.Kind == api.FaFilm && !isReplaced(f):
			b.Film = f.Film
		case f.Kind == api.FaGauge && !isReplaced(f):
			b.Gauges = append(b.Gauges, f.Gauge)
		case f.Kind == api.FaUse && !slices.Contains(b.Uses, f.Use):
			b.Uses = append(b.Uses, f.Use)
		case f.Kind == api.FaLoan:
			b.Loans = append(b.Loans, f.Loan)
		case f.Kind == api.FaCompare:
			c := cloned([]api.Fact{f})[0].Compare
			c.ID = 100*f.Room + f.No
			b.Compares = append(b.Compares, c)
		case f.Kind == api.FaMix && !isReplaced(f):
			m.Mixes = append(m.Mixes, cloned([]api.Fact{f})[0].Mix)
		}
	}
	b := &m.Book
	slices.SortFunc(b.Gauges, func(g, h api.Gauge) int { return g.ID - h.ID })
	slices.SortFunc(b.Uses, func(u, v api.Use) int { return cmp.Or(u.Day-v.Day, u.Gauge-v.Gauge) })
	slices.SortStableFunc(b.Loans, func(u, v api.Loan) int { return cmp.Or(u.Days.Lo-v.Days.Lo, u.Gauge-v.Gauge) })
	slices.SortStableFunc(b.Compares, func(c, d api.Compare) int { return c.Day - d.Day })
	slices.SortFunc(m.Mixes, func(x, y api.Mix) int { return x.Day - y.Day })
	return m
}

// given are the arguments of a call.
type given struct {
	l, other          []api.Fact
	known, label, day int
	limits            api.Span
	n                 api.Name
	plan              []api.Compare
}

// call is a function of the package.
type call struct {
	name string
	run  func(g given) (any, api.Errno)
}

func result[T any](x T, e api.Errno) (any, api.Errno) { return x, e }

// calls are all functions that tell what follows from facts.
func calls() []call {
	return []call{
		{"Standing", func(g given) (any, api.Errno) { return result(room.Standing(g.l, g.known)) }},
		{"Gather", func(g given) (any, api.Errno) { return result(room.Gather(g.l, g.known)) }},
		{"Told", func(g given) (any, api.Errno) { return result(room.Told(g.l, g.known, g.label, g.day)) }},
		{"Judge", func(g given) (any, api.Errno) { return result(room.Judge(g.l, g.known, g.label, g.day, g.limits)) }},
		{"Rests", func(g given) (any, api.Errno) { return result(room.Rests(g.l, g.known, g.label, g.day, g.n)) }},
		{"Blame", func(g given) (any, api.Errno) { return result(room.Blame(g.l, g.known)) }},
		{"Quarrel", func(g given) (any, api.Errno) { return result(room.Quarrel(g.l, g.other, g.known, g.day)) }},
		{"Settle", func(g given) (any, api.Errno) {
			return result(room.Settle(g.l, g.known, g.label, g.day, g.limits, g.plan))
		}},
	}
}

// isNothing reports whether a result is a zero value, where an empty list is one, too.
func isNothing(x any) bool { return x == nil || isZero(reflect.ValueOf(x)) }

func isZero(v reflect.Value) bool {
	switch v.Kind() {
	case reflect.Slice:
		return v.Len() == 0
	case reflect.Struct:
		for i := range v.NumField() {
			if !isZero(v.Field(i)) {
				return false
			}
		}
		return true
	}
	return v.IsZero()
}

// scene is a case with the way in which labels truly were exchanged, and with what each gauge truly lost on each day.
type scene struct {
	m    api.Mixed // with the labels
	way  [][]int
	b    api.Book // of the gauges
	made []int    // the length of each gauge on the day on which it was made
	lost [][]int  // what each gauge lost, on each day from the day 0 on
}

const sceneDays = 8 // the days of a scene are before this one

// bearer returns the gauge that truly bears a label on a day.
func (s scene) bearer(label, day int) int {
	gauge, e := swap.Who(s.m, s.way, label, day)
	if e != api.OK {
		panic("no such label")
	}
	return gauge
}

// length returns the true length of a gauge on a day.
func (s scene) length(id, day int) int {
	i := slices.IndexFunc(s.b.Gauges, func(g api.Gauge) bool { return g.ID == id })
	length := s.made[i]
	for _, lost := range s.lost[i][s.b.Gauges[i].Made:day] {
		length -= lost
	}
	return length
}

// label returns the label that a gauge truly bears on a day.
func (s scene) label(gauge, day int) int {
	label := gauge
	for i, x := range s.m.Mixes {
		if place := slices.Index(x.Labels, label); place >= 0 && x.Day < day {
			label = s.way[i][place]
		}
	}
	return label
}

// randomScene returns a case of up to that many gauges, mix-ups and comparisons. Some comparisons lie, if it is not honest.
func randomScene(r *rand.Rand, gauges, mixes, compares int, honest bool) (scene, bool) {
	var s scene
	s.b.Film.Hi = r.Intn(3)
	growths := []api.Rat{rat(0, 1), rat(0, 1), rat(1, 2), rat(-1, 3)}
	for i := range 1 + r.Intn(gauges) {
		g := gauge(2*i+1+r.Intn(2), 40+3*r.Intn(4), -r.Intn(3), r.Intn(3))
		g.Made, g.Growth, g.Wear = r.Intn(2), growths[r.Intn(len(growths))], r.Intn(3)
		s.b.Gauges = append(s.b.Gauges, g)
		s.made = append(s.made, g.Nominal+g.Tol.Lo+r.Intn(g.Tol.Hi-g.Tol.Lo+1))
	}
	s.mixUp(r, mixes)
	for range r.Intn(6) {
		g := s.b.Gauges[r.Intn(len(s.b.Gauges))]
		s.b.Uses = append(s.b.Uses, use(g.ID, g.Made+r.Intn(sceneDays-g.Made)))
	}
	for range r.Intn(3) {
		g := s.b.Gauges[r.Intn(len(s.b.Gauges))]
		lo := g.Made + r.Intn(sceneDays-g.Made)
		s.b.Loans = append(s.b.Loans, loan(g.ID, lo, min(lo+r.Intn(3), sceneDays-1), r.Intn(3)))
	}
	for _, g := range s.b.Gauges {
		var lost []int
		for day := range sceneDays {
			most := 0
			if slices.Contains(s.b.Uses, use(g.ID, day)) {
				most = g.Wear
			}
			for _, l := range s.b.Loans {
				if l.Gauge == g.ID && l.Days.Lo <= day && day <= l.Days.Hi {
					most = l.Wear
				}
			}
			lost = append(lost, r.Intn(most+1))
		}
		s.lost = append(s.lost, lost)
	}
	for i := range r.Intn(compares + 1) {
		c := s.randomCompare(r, honest)
		c.ID = i + 1
		s.b.Compares = append(s.b.Compares, c)
	}
	s.relabel()
	// A comparison of what is away, or a use of it, makes a book that is not valid.
	return s, swap.Check(s.m) == api.OK
}

// relabel writes the book of the gauges down with the labels that they truly bear.
func (s *scene) relabel() {
	b := &s.m.Book
	*b = s.b
	b.Uses, b.Loans, b.Compares = slices.Clone(b.Uses), slices.Clone(b.Loans), slices.Clone(b.Compares)
	for i, u := range b.Uses {
		b.Uses[i].Gauge = s.label(u.Gauge, u.Day)
	}
	for i, l := range b.Loans {
		b.Loans[i].Gauge = s.label(l.Gauge, l.Days.Lo)
	}
	for i, c := range b.Compares {
		for _, pile := range []*[]int{&b.Compares[i].A, &b.Compares[i].B} {
			*pile = slices.Clone(*pile)
			for j, id := range *pile {
				(*pile)[j] = s.label(id, c.Day)
			}
			slices.Sort(*pile)
		}
	}
}

// mixUp gives a scene some mix-ups, and what truly happened.
func (s *scene) mixUp(r *rand.Rand, mixes int) {
	for day := 1; day < sceneDays-1; day++ {
		if len(s.m.Mixes) == mixes || r.Intn(2) == 0 {
			continue
		}
		x := mix(day)
		for _, g := range s.b.Gauges {
			if len(x.Labels) < 3 && r.Intn(4) > 0 {
				x.Labels = append(x.Labels, g.ID)
			}
		}
		if len(x.Labels) < 2 {
			continue
		}
		list := slices.Clone(x.Labels)
		r.Shuffle(len(list), func(i, j int) { list[i], list[j] = list[j], list[i] })
		s.m.Mixes = append(s.m.Mixes, x)
		s.way = append(s.way, list)
	}
}

// randomCompare returns a comparison at one temperature, without rounding.
func (s scene) randomCompare(r *rand.Rand, honest bool) api.Compare {
	c := cold(1+r.Intn(sceneDays-1), nil, nil, 0, r.Intn(2))
	order := r.Perm(len(s.b.Gauges))
	heat := 6 * (r.Intn(3) - 1)
	c.Heat = span(heat-r.Intn(2), heat+r.Intn(2))
	side := func(pile *[]int, which int) int {
		g := s.b.Gauges[order[which]]
		*pile = append(*pile, g.ID)
		return s.length(g.ID, c.Day) + g.Growth.Num*heat/g.Growth.Den
	}
	c.Diff = side(&c.A, 0)
	if len(order) > 1 && r.Intn(4) > 0 {
		c.Diff -= side(&c.B, 1)
	}
	if len(order) > 2 && len(c.B) > 0 && r.Intn(3) == 0 {
		side(&c.A, 2)
		side(&c.B, 2)
	}
	slices.Sort(c.A)
	slices.Sort(c.B)
	c.Diff += r.Intn(2*c.Error+1) - c.Error
	if !honest && r.Intn(4) == 0 {
		c.Diff += r.Intn(9) - 4
	}
	if r.Intn(2) == 0 {
		c.A, c.B, c.Diff = c.B, c.A, -c.Diff
	}
	return c
}

// scenes are always the same scenes.
func scenes(count, gauges, mixes, compares int, honest bool) []scene {
	r := rand.New(rand.NewSource(7))
	var l []scene
	for len(l) < count {
		if s, ok := randomScene(r, gauges, mixes, compares, honest); ok {
			l = append(l, s)
		}
	}
	return l
}

// writing is how facts become known to some rooms, one after the other.
type writing struct {
	r     *rand.Rand
	known int
	l     []api.Fact
}

// write adds a fact of some room, and returns its name.
func (w *writing) write(what any) api.Name {
	w.known += w.r.Intn(2)
	which := 1 + w.r.Intn(3)
	no := 1
	for _, f := range w.l {
		if f.Room == which {
			no++
		}
	}
	w.l = append(w.l, fact(which, no, w.known, what))
	return name(which, no)
}

// written returns facts of three rooms whose case at the last time is that of a scene, but for its order, and that time. Some facts are repeated, replaced by later ones, or withdrawn.
func written(r *rand.Rand, s scene) ([]api.Fact, int) {
	w := &writing{r: r}
	b := s.m.Book
	var about []any
	for _, g := range b.Gauges {
		about = append(about, g)
		if r.Intn(3) == 0 {
			g.Nominal, g.Wear = g.Nominal+r.Intn(3)-1, r.Intn(2)
			w.write(g)
		}
	}
	for _, u := range b.Uses {
		about = append(about, u)
	}
	for _, l := range b.Loans {
		about = append(about, l)
	}
	for _, c := range b.Compares {
		c.ID = 0
		about = append(about, c)
	}
	for _, x := range s.m.Mixes {
		about = append(about, x)
		if r.Intn(3) == 0 {
			w.write(mix(x.Day, b.Gauges[0].ID, b.Gauges[1].ID))
		}
	}
	if b.Film != span(0, 0) {
		w.write(span(1, 2))
		about = append(about, b.Film)
	}
	r.Shuffle(len(about), func(i, j int) { about[i], about[j] = about[j], about[i] })
	w.known++ // Whatever replaces something is known later.
	for _, what := range about {
		if r.Intn(5) == 0 {
			c := s.randomCompare(r, false)
			c.Diff++
			wrong := w.write(c)
			what := w.write(wrong)
			if r.Intn(3) == 0 {
				w.write(what) // Nothing withdraws a withdrawal.
			}
		}
		w.write(what)
	}
	for _, f := range w.l {
		if r.Intn(8) == 0 {
			w.l = append(w.l, f)
		}
	}
	r.Shuffle(len(w.l), func(i, j int) { w.l[i], w.l[j] = w.l[j], w.l[i] })
	return w.l, w.known
}

// mustGather returns the case of a list at a time that is valid.
func mustGather(t *testing.T, l []api.Fact, known int) api.Mixed {
	t.Helper()
	m, e := room.Gather(l, known)
	if e != api.OK {
		t.Fatal("P8.3: Gather:", l, known, e)
	}
	return m
}
