package sharp

import (
	"iter"
	"slices"

	"wringing/api"
	"wringing/chain"
	"wringing/compare"
)

// Certify returns a certificate of an end of an interval.
func Certify(b api.Book, n api.Node, upper bool) (api.Cert, api.Errno) {
	s, e := open(b, n)
	if e != api.OK {
		return api.Cert{}, e
	}
	s, links := shrink(s, func(s sight) []int { return s.proof(n, upper) }, n)
	c := api.Cert{Book: s.book, Node: n, Upper: upper, Chain: links}
	if interval := s.interval(n); upper {
		c.Value = interval.Hi
	} else {
		c.Value = interval.Lo
	}
	return c, api.OK
}

// CheckCert checks a certificate of a bound.
func CheckCert(c api.Cert) api.Errno {
	system, _, e := compare.System(c.Book)
	if e != api.OK {
		return e
	}
	place, e := compare.Index(c.Book, c.Node)
	if e != api.OK {
		return e
	}
	from, to := way(place, c.Upper)
	want := c.Value
	if !c.Upper {
		want = -want
	}
	sum, e := chain.CheckChain(system, from, to, c.Chain)
	if e != api.OK || sum != want {
		return api.ErrProof
	}
	return api.OK
}

// Clash returns a certificate that a book contradicts itself.
func Clash(b api.Book) (api.Cert, api.Errno) {
	s, e := see(b)
	if e != api.OK {
		return api.Cert{}, e
	}
	if _, e := chain.Clash(s.system); e != api.OK {
		return api.Cert{}, e
	}
	s, links := shrink(s, sight.clash)
	return api.Cert{Book: s.book, Chain: links}, api.OK
}

// CheckClash checks a certificate of a contradiction.
func CheckClash(c api.Cert) api.Errno {
	system, _, e := compare.System(c.Book)
	if e != api.OK {
		return e
	}
	if c.Node != (api.Node{}) || c.Upper || c.Value != 0 {
		return api.ErrArg
	}
	if chain.CheckClash(system, c.Chain) != api.OK {
		return api.ErrProof
	}
	return api.OK
}

// Part reports whether a book is a part of another one.
func Part(s, b api.Book) (bool, api.Errno) {
	for _, book := range []api.Book{s, b} {
		if e := compare.Check(book); e != api.OK {
			return false, e
		}
	}
	has := func(gauge int) bool {
		return slices.ContainsFunc(s.Gauges, func(g api.Gauge) bool { return g.ID == gauge })
	}
	uses := slices.Collect(kept(b.Uses, func(u api.Use) bool { return has(u.Gauge) }))
	loans := slices.Collect(kept(b.Loans, func(l api.Loan) bool { return has(l.Gauge) }))
	compares := func(c api.Compare) bool {
		return slices.ContainsFunc(b.Compares, func(d api.Compare) bool { return sameCompare(c, d) })
	}
	return s.Film == b.Film && areAmong(s.Gauges, b.Gauges) && areAmong(s.Uses, uses) && areAmong(uses, s.Uses) &&
		areAmong(s.Loans, loans) && areAmong(loans, s.Loans) && all(s.Compares, compares), api.OK
}

// Stands reports whether a certificate proves something, and rests on a book.
func Stands(b api.Book, c api.Cert) (bool, api.Errno) {
	if e := compare.Check(b); e != api.OK {
		return false, e
	}
	check := CheckCert
	if c.Node == (api.Node{}) {
		check = CheckClash
	}
	if e := check(c); e != api.OK {
		return false, e
	}
	return Part(c.Book, b)
}

// way returns where a chain that proves an end of an interval starts, and where it ends.
func way(place int, upper bool) (from, to int) {
	if upper {
		return 0, place
	}
	return place, 0
}

// proof returns a chain that proves an end of an interval.
func (s sight) proof(n api.Node, upper bool) []int {
	from, to := way(s.index(n), upper)
	links, _ := chain.Chain(s.system, from, to)
	return links
}

// clash returns a shortest chain that proves that the book has no history.
func (s sight) clash() []int {
	links, _ := chain.Clash(s.system)
	return links
}

// shrink cuts a book to what a chain rests on, until the chain rests on all of it, and returns both. A chain stays one where links of wear through nodes that are gone are one link, so a book that is cut implies as much of what is proved.
func shrink(s sight, prove func(s sight) []int, nodes ...api.Node) (sight, []int) {
	small, _ := see(cut(s, prove(s)), nodes...)
	if len(small.system.Links) == len(s.system.Links) {
		return small, prove(small)
	}
	return shrink(small, prove, nodes...)
}

// basis is what some links of a book rest on, by IDs.
type basis struct {
	book             api.Book
	gauges, compares []int
}

func (r *basis) addGauge(which int) { r.gauges = append(r.gauges, r.book.Gauges[which].ID) }

// addCompare adds a comparison, and its gauges, also those that both of its piles have.
func (r *basis) addCompare(which int) {
	c := r.book.Compares[which]
	r.compares = append(r.compares, c.ID)
	r.gauges = slices.Concat(r.gauges, c.A, c.B)
}

// add adds what a link comes from.
func (r *basis) add(s api.Source) {
	adders := [...]func(which int){api.SoMade: r.addGauge, api.SoWear: r.addGauge, api.SoCompare: r.addCompare}
	adders[s.Kind](s.Which)
}

// cut returns what is left of a book if only some links of its system are needed, without looks.
func cut(s sight, links []int) api.Book {
	r := basis{book: s.book}
	for _, i := range links {
		r.add(s.sources[i])
	}
	has := func(gauge int) bool { return slices.Contains(r.gauges, gauge) }
	b := api.Book{
		Film:   s.book.Film,
		Gauges: slices.Collect(kept(s.book.Gauges, func(g api.Gauge) bool { return has(g.ID) })),
		Uses:   slices.Collect(kept(s.book.Uses, func(u api.Use) bool { return has(u.Gauge) })),
		Loans:  slices.Collect(kept(s.book.Loans, func(l api.Loan) bool { return has(l.Gauge) })),
	}
	for c := range kept(s.book.Compares, func(c api.Compare) bool { return slices.Contains(r.compares, c.ID) }) {
		c.A, c.B = slices.Clone(c.A), slices.Clone(c.B)
		b.Compares = append(b.Compares, c)
	}
	return b
}

// kept yields the elements of a list that are to be kept.
func kept[T any](l []T, keep func(T) bool) iter.Seq[T] {
	return func(yield func(T) bool) {
		for _, x := range l {
			if keep(x) && !yield(x) {
				return
			}
		}
	}
}

func all[T any](l []T, is func(T) bool) bool {
	return !slices.ContainsFunc(l, func(x T) bool { return !is(x) })
}

// areAmong reports whether all elements of a list are elements of another one.
func areAmong[T comparable](l, of []T) bool {
	return all(l, func(x T) bool { return slices.Contains(of, x) })
}

func sameCompare(c, d api.Compare) bool {
	return c.ID == d.ID && c.Day == d.Day && slices.Equal(c.A, d.A) && slices.Equal(c.B, d.B) &&
		c.Diff == d.Diff && c.Error == d.Error && c.Heat == d.Heat
}
