package room

import (
	"iter"
	"slices"

	"wringing/api"
	"wringing/compare"
	"wringing/swap"
)

// trial is a question about a case, the ways that explain it, and further comparisons with the results that they can have.
type trial struct {
	question
	known   api.Mixed
	ways    [][][]int
	plan    []api.Compare
	results []api.Span
}

// Settle returns the fewest comparisons that decide a verdict, whatever they show.
func Settle(l []api.Fact, known, label, day int, limits api.Span, plan []api.Compare) ([]int, api.Errno) {
	m, e := Gather(l, known)
	if e != api.OK {
		return nil, e
	}
	t := trial{question: question{label: label, day: day, limits: limits}, known: m, plan: plan}
	if t.ways, e = t.open(m); e != api.OK {
		return nil, e
	}
	if t.results, e = t.foresee(); e != api.OK {
		return nil, e
	}
	if list, ok := t.first(few(len(plan))); ok {
		return list, api.OK
	}
	if t.tooMany() {
		return nil, api.ErrLimit
	}
	if list, ok := t.first(pairs(len(plan))); ok {
		return list, api.OK
	}
	return nil, api.ErrNone
}

// foresee returns the results of each comparison of the plan.
func (t trial) foresee() ([]api.Span, api.Errno) {
	if len(t.plan) > api.MaxPlan {
		return nil, api.ErrLimit
	}
	var results []api.Span
	for i, c := range t.plan {
		s, ok := t.resultsOf(i)
		if c.ID != 0 || !ok {
			return nil, api.ErrArg
		}
		results = append(results, s)
	}
	if slices.ContainsFunc(results, func(s api.Span) bool { return count(s) > api.MaxResults }) {
		return nil, api.ErrLimit
	}
	return results, api.OK
}

// resultsOf returns the results of a comparison of the plan, if it has some.
func (t trial) resultsOf(which int) (api.Span, bool) {
	m := t.with([]int{which})
	if swap.Check(m) != api.OK {
		return api.Span{}, false
	}
	var all []api.Span
	for _, s := range t.sights(m, t.ways) {
		last := len(s.book.Compares) - 1
		c := s.book.Compares[last]
		s.book.Compares = s.book.Compares[:last]
		// The way explains what is known, so there is no other error than that no integer can be shown.
		if r, e := compare.Predict(s.book, c); e == api.OK {
			all = append(all, r)
		}
	}
	if len(all) == 0 {
		return api.Span{}, false
	}
	hull := all[0]
	for _, s := range all {
		hull = api.Span{Lo: min(hull.Lo, s.Lo), Hi: max(hull.Hi, s.Hi)}
	}
	return hull, true
}

// with returns the case with some comparisons of the plan, which show no difference yet.
func (t trial) with(list []int) api.Mixed {
	m := t.known
	m.Book.Compares = slices.Clone(m.Book.Compares)
	for i, which := range list {
		c := t.plan[which]
		c.ID, c.Diff = i+1, 0
		m.Book.Compares = append(m.Book.Compares, c)
	}
	return m
}

// first returns the first one of some lists of comparisons that settles the question.
func (t trial) first(lists iter.Seq[[]int]) ([]int, bool) {
	for list := range lists {
		if t.settles(list) {
			return list, true
		}
	}
	return nil, false
}

// settles reports whether the verdict is not open for any results of a list of comparisons.
func (t trial) settles(list []int) bool {
	m := t.with(list)
	if swap.Check(m) != api.OK {
		return false
	}
	// A way that does not explain what is known does not explain it with more comparisons, either.
	sights := t.sights(m, t.ways)
	for results := range t.choices(list) {
		// A result that is no difference of a valid case is none of a valid translation, so the verdict stays open.
		for _, s := range sights {
			show(s.book, results)
		}
		if t.verdict(sights) == api.ShOpen {
			return false
		}
	}
	return true
}

// show lets the last comparisons of a book show some results.
func show(b api.Book, results []int) {
	last := b.Compares[len(b.Compares)-len(results):]
	for i, r := range results {
		last[i].Diff = r
	}
}

// choices yields all choices of a result for each comparison of a list.
func (t trial) choices(list []int) iter.Seq[[]int] {
	return func(yield func([]int) bool) {
		if len(list) == 0 {
			yield(nil)
			return
		}
		s := t.results[list[0]]
		for r := s.Lo; r <= s.Hi; r++ {
			for rest := range t.choices(list[1:]) {
				if !yield(slices.Concat([]int{r}, rest)) {
					return
				}
			}
		}
	}
}

// tooMany reports whether two comparisons have too many results together.
func (t trial) tooMany() bool {
	for pair := range pairs(len(t.plan)) {
		if count(t.results[pair[0]])*count(t.results[pair[1]]) > api.MaxResults {
			return true
		}
	}
	return false
}

func count(s api.Span) int { return s.Hi - s.Lo + 1 }

// few yields the lists of none or one of some indices.
func few(indices int) iter.Seq[[]int] {
	return func(yield func([]int) bool) {
		if !yield(nil) {
			return
		}
		for i := range indices {
			if !yield([]int{i}) {
				return
			}
		}
	}
}

// pairs yields the lists of two of some indices.
func pairs(indices int) iter.Seq[[]int] {
	return func(yield func([]int) bool) {
		for i := range indices {
			for j := i + 1; j < indices; j++ {
				if !yield([]int{i, j}) {
					return
				}
			}
		}
	}
}
