package room

import (
	"cmp"
	"iter"
	"maps"
	"slices"

	"wringing/api"
	"wringing/swap"
)

// Standing returns the names of the facts that stand at a time.
func Standing(l []api.Fact, known int) ([]api.Name, api.Errno) {
	if e := checkKnown(l, known); e != api.OK {
		return nil, e
	}
	var names []api.Name
	for f := range standing(l, known) {
		names = append(names, nameOf(f))
	}
	return names, api.OK
}

// Gather returns the case that the facts make at a time.
func Gather(l []api.Fact, known int) (api.Mixed, api.Errno) {
	if e := checkKnown(l, known); e != api.OK {
		return api.Mixed{}, e
	}
	m := caseOf(l, known)
	if e := swap.Check(m); e != api.OK {
		return api.Mixed{}, e
	}
	return m, api.OK
}

// checkKnown returns the error of a list of facts, or of a time.
func checkKnown(l []api.Fact, known int) api.Errno {
	if e, _ := CheckFacts(l); e != api.OK {
		return e
	}
	if !isTime(known) {
		return api.ErrArg
	}
	return api.OK
}

// standing yields the facts that stand at a time, in the order of their names, each once.
func standing(l []api.Fact, known int) iter.Seq[api.Fact] {
	return func(yield func(api.Fact) bool) {
		withdrawn := map[api.Name]bool{}
		for _, f := range l {
			if f.Kind == api.FaWithdraw && f.Known <= known {
				withdrawn[f.Target] = true
			}
		}
		for _, f := range ordered(l) {
			stands := f.Kind == api.FaWithdraw || !withdrawn[nameOf(f)]
			if f.Known <= known && stands && !yield(f) {
				return
			}
		}
	}
}

// caseOf returns the case of a list of facts at a time, valid or not. It shares no list with the facts.
func caseOf(l []api.Fact, known int) api.Mixed {
	of := func(kind int) iter.Seq[api.Fact] {
		return func(yield func(api.Fact) bool) {
			for f := range standing(l, known) {
				if f.Kind == kind && !yield(copied(f)) {
					return
				}
			}
		}
	}
	film := func(f api.Fact) api.Span { return f.Film }
	gauge := func(f api.Fact) api.Gauge { return f.Gauge }
	mix := func(f api.Fact) api.Mix { return f.Mix }
	b := api.Book{Uses: usesOf(of(api.FaUse)), Loans: loansOf(of(api.FaLoan)), Compares: comparesOf(of(api.FaCompare))}
	for _, s := range latest(of(api.FaFilm), func(f api.Fact) int { return f.Kind }, film) {
		b.Film = s
	}
	b.Gauges = latest(of(api.FaGauge), func(f api.Fact) int { return f.Gauge.ID }, gauge)
	return api.Mixed{Book: b, Mixes: latest(of(api.FaMix), func(f api.Fact) int { return f.Mix.Day }, mix)}
}

// latest returns a part of the latest one of the facts with each key, by increasing keys.
func latest[T any](facts iter.Seq[api.Fact], key func(api.Fact) int, part func(api.Fact) T) []T {
	last := map[int]api.Fact{}
	for f := range facts {
		if before, ok := last[key(f)]; !ok || isLater(f, before) {
			last[key(f)] = f
		}
	}
	var parts []T
	for _, k := range slices.Sorted(maps.Keys(last)) {
		parts = append(parts, part(last[k]))
	}
	return parts
}

func isLater(a, b api.Fact) bool { return cmp.Or(cmp.Compare(a.Known, b.Known), byName(a, b)) > 0 }

func usesOf(facts iter.Seq[api.Fact]) []api.Use {
	var uses []api.Use
	for f := range facts {
		uses = append(uses, f.Use)
	}
	slices.SortFunc(uses, func(a, b api.Use) int {
		return cmp.Or(cmp.Compare(a.Day, b.Day), cmp.Compare(a.Gauge, b.Gauge))
	})
	return slices.Compact(uses)
}

func loansOf(facts iter.Seq[api.Fact]) []api.Loan {
	var loans []api.Loan
	for f := range facts {
		loans = append(loans, f.Loan)
	}
	// Loans of one gauge from one day on stay in the order of their facts, and so do comparisons of one day.
	slices.SortStableFunc(loans, func(a, b api.Loan) int {
		return cmp.Or(cmp.Compare(a.Days.Lo, b.Days.Lo), cmp.Compare(a.Gauge, b.Gauge))
	})
	return loans
}

func comparesOf(facts iter.Seq[api.Fact]) []api.Compare {
	var compares []api.Compare
	for f := range facts {
		c := f.Compare
		c.ID = idOf(nameOf(f))
		compares = append(compares, c)
	}
	slices.SortStableFunc(compares, func(a, b api.Compare) int { return cmp.Compare(a.Day, b.Day) })
	return compares
}

// roomIDs is by how much the ID of a comparison becomes greater with the number of its room; no number of a fact is as great.
const roomIDs = 100

// idOf returns the ID of the comparison of a fact.
func idOf(n api.Name) int { return roomIDs*n.Room + n.No }

// named returns the name of the fact whose comparison has an ID.
func named(id int) api.Name { return api.Name{Room: id / roomIDs, No: id % roomIDs} }
