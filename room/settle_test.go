package room_test

import (
	"math/rand"
	"slices"
	"testing"

	"wringing/api"
	"wringing/compare"
	"wringing/room"
	"wringing/swap"
)

// alone is a comparison of a label with nothing, whose difference does not matter.
func alone(day, label, most int) api.Compare { return cold(day, []int{label}, nil, 77, most) }

func TestExampleOfSettle(t *testing.T) {
	l, plan := example(), []api.Compare{alone(15, 2, 0)}
	got, e := room.Settle(l, 5, 2, 15, span(1000, 1200), plan)
	if !slices.Equal(got, []int{0}) || e != api.OK {
		t.Error("P8.8: Settle:", got, e)
	}
	// At the time 9 the verdict is not open.
	got, e = room.Settle(l, 9, 2, 15, span(1000, 1200), plan)
	if len(got) > 0 || e != api.OK {
		t.Error("P8.8: Settle:", got, e)
	}
}

func TestSettle(t *testing.T) {
	// The gauges 1, 2 and 3 are 98 to 102, 108 to 112, and 118 to 122 units long.
	box := inBox(3)
	grown := inBox(0, api.Gauge{ID: 1, Nominal: 100, Tol: span(-2, 2), Growth: rat(1, 2)})
	differ := func(day, a, b, most int) api.Compare { return cold(day, []int{a}, []int{b}, 0, most) }
	single := func(plan ...api.Compare) []api.Compare { return plan }
	for i, x := range []struct {
		l          []api.Fact
		label, day int
		limits     api.Span
		plan       []api.Compare
		want       []int
		e          api.Errno
	}{
		{box, 1, 5, span(98, 102), nil, nil, api.OK},
		{box, 1, 5, span(98, 101), nil, nil, api.ErrNone},
		{box, 1, 5, span(98, 102), single(alone(5, 1, 0), alone(5, 2, 0)), nil, api.OK},
		{box, 1, 5, span(98, 101), single(alone(5, 1, 0)), []int{0}, api.OK},
		{box, 1, 5, span(98, 101), single(alone(6, 1, 0)), []int{0}, api.OK}, // It does not wear.
		{box, 1, 5, span(98, 101), single(alone(5, 2, 0)), nil, api.ErrNone},
		{box, 1, 5, span(98, 101), single(alone(5, 2, 0), alone(5, 1, 0), alone(5, 1, 0)), []int{1}, api.OK},
		{box, 1, 5, span(98, 101), single(alone(5, 1, 1)), nil, api.ErrNone},
		{box, 1, 5, span(99, 103), single(alone(5, 1, 1)), nil, api.ErrNone},
		// What two comparisons show together: a difference, and the length of the other gauge.
		{box, 1, 5, span(98, 100), single(differ(5, 1, 2, 0), alone(5, 2, 0)), []int{0, 1}, api.OK},
		{box, 1, 5, span(98, 100), single(alone(5, 3, 0), alone(7, 2, 0), differ(7, 1, 2, 0)), []int{1, 2}, api.OK},
		{box, 1, 5, span(98, 100), single(alone(5, 2, 0), alone(5, 2, 0), differ(5, 1, 2, 0)), []int{0, 2}, api.OK},
		{box, 1, 5, span(98, 100), single(differ(5, 1, 2, 0), alone(5, 3, 0)), nil, api.ErrNone},
		{box, 1, 5, span(98, 100), single(differ(5, 1, 2, 1), alone(5, 2, 0)), nil, api.ErrNone},  // 11 times 5 results
		{box, 1, 5, span(98, 100), single(differ(5, 1, 2, 2), alone(5, 2, 0)), nil, api.ErrLimit}, // 13 times 5 results
		{box, 1, 5, span(98, 100), single(alone(5, 1, 1), alone(5, 1, 1)), nil, api.ErrNone},
		// At a temperature at which only one of two differences shows an integer, nothing is shown by some gauges.
		{grown, 1, 5, span(98, 100), single(api.Compare{Day: 5, A: []int{1}, Heat: span(1, 1)}), nil, api.ErrArg},
		{grown, 1, 5, span(98, 100), single(api.Compare{Day: 5, A: []int{1}, Heat: span(2, 2)}), []int{0}, api.OK},
	} {
		got, e := room.Settle(x.l, 1, x.label, x.day, x.limits, x.plan)
		if !slices.Equal(got, x.want) || e != x.e {
			t.Error("P8.8: Settle:", i, got, e)
		}
	}
}

// TestResultsOfPlan is about plans of comparisons with many results.
func TestResultsOfPlan(t *testing.T) {
	// The lengths are 1000 units, and up to that many more.
	box := func(more ...int) []api.Fact {
		var about []any
		for i, n := range more {
			about = append(about, gauge(i+1, 1000, 0, n))
		}
		return facts(1, 1, 1, about...)
	}
	one, two, three := alone(5, 1, 0), alone(5, 2, 0), alone(5, 3, 0)
	limits := span(1000, 1003)
	for i, x := range []struct {
		l    []api.Fact
		plan []api.Compare
		want []int
		e    api.Errno
	}{
		{box(59), []api.Compare{one}, []int{0}, api.OK},
		{box(60), []api.Compare{one}, nil, api.ErrLimit},
		{box(58), []api.Compare{alone(5, 1, 1)}, nil, api.ErrLimit},
		{box(57), []api.Compare{alone(5, 1, 1)}, nil, api.ErrNone},
		{box(9, 60), []api.Compare{one, two}, nil, api.ErrLimit},
		{box(9, 59), []api.Compare{one, two}, []int{0}, api.OK}, // Lists of two are not looked at.
		{box(59, 9), []api.Compare{two, one}, []int{1}, api.OK},
		{box(9, 5, 9), []api.Compare{two, three}, nil, api.ErrNone}, // 6 times 10 results
		{box(9, 6, 8), []api.Compare{two, three}, nil, api.ErrLimit},
		{box(9, 59), []api.Compare{two}, nil, api.ErrNone},
		{box(9, 59, 0), []api.Compare{two, three}, nil, api.ErrNone},
		{box(9, 59, 0, 1), []api.Compare{two, three, alone(5, 4, 0)}, nil, api.ErrLimit},
		{box(9, 5, 9), []api.Compare{two, three, cold(5, []int{1}, []int{2}, 0, 0)}, nil, api.ErrLimit},
	} {
		if got, e := room.Settle(x.l, 1, 1, 5, limits, x.plan); !slices.Equal(got, x.want) || e != x.e {
			t.Error("P8.8: Settle with many results:", i, got, e)
		}
	}
}

// TestVerdictsOfWays is about comparisons that tell which gauge bears a label.
func TestVerdictsOfWays(t *testing.T) {
	// The label 1 is on a gauge of 98 to 102 units, or on one of 108 to 112; so it is with the label 2.
	l := inBox(3, mix(3, 1, 2))
	for _, x := range []struct {
		limits api.Span
		plan   []api.Compare
		want   []int
		e      api.Errno
	}{
		{span(90, 105), []api.Compare{alone(3, 1, 0), alone(3, 2, 0), alone(4, 3, 0)}, nil, api.ErrNone},
		{span(90, 105), []api.Compare{alone(3, 1, 0), alone(4, 2, 2)}, []int{1}, api.OK},
		{span(90, 105), []api.Compare{alone(4, 2, 3), alone(4, 2, 2)}, []int{1}, api.OK},
		{span(90, 105), []api.Compare{alone(4, 2, 20), cold(4, []int{1}, []int{2}, 0, 6)}, nil, api.ErrLimit},
		{span(90, 105), []api.Compare{cold(4, []int{1}, []int{2}, 0, 6)}, nil, api.ErrNone},
		{span(90, 105), []api.Compare{cold(4, []int{1}, []int{2}, 0, 3)}, []int{0}, api.OK},
		{span(103, 107), nil, nil, api.OK},
	} {
		if got, e := room.Settle(l, 1, 1, 5, x.limits, x.plan); !slices.Equal(got, x.want) || e != x.e {
			t.Error("P8.8: Settle with ways:", x.limits, x.plan, got, e)
		}
	}
}

// TestComparisonsThatExcludeEachOther is about two comparisons each of which shows an integer by one of two ways only: no way explains both.
func TestComparisonsThatExcludeEachOther(t *testing.T) {
	grown := gauge(1, 100, 0, 0)
	grown.Growth = rat(1, 2)
	warm := func(label int) api.Compare { return api.Compare{Day: 5, A: []int{label}, Heat: span(1, 1)} }
	about := []any{grown, gauge(2, 100, 0, 0), gauge(3, 100, 0, 9), gauge(4, 100, 0, 0), gauge(5, 100, 0, 0), mix(3, 1, 2)}
	plan := []api.Compare{warm(1), warm(2)}
	if got, e := room.Settle(facts(1, 1, 1, about...), 1, 3, 9, span(100, 104), plan); !slices.Equal(got, []int{0, 1}) || e != api.OK {
		t.Error("P8.8: Settle:", got, e)
	}
	// So it is if there is no place for a look behind both: the case has 57 of 59 nodes.
	for day := range 26 {
		about = append(about, cold(100+day, []int{4}, []int{5}, 0, 0))
	}
	l := facts(1, 1, 1, about...)
	if got, e := room.Settle(l, 1, 3, 9, span(100, 104), plan); !slices.Equal(got, []int{0, 1}) || e != api.OK {
		t.Error("P8.8: Settle without a place for a look:", got, e)
	}
	// Two comparisons that both show integers leave no place for a look.
	if got, e := room.Settle(l, 1, 3, 9, span(100, 104), []api.Compare{warm(1), alone(6, 4, 0)}); got != nil || e != api.ErrNone {
		t.Error("P8.8: Settle without a place for a look:", got, e)
	}
	if got, e := room.Settle(l, 1, 3, 9, span(100, 104), []api.Compare{warm(1), alone(9, 3, 0)}); !slices.Equal(got, []int{1}) || e != api.OK {
		t.Error("P8.8: Settle by a look:", got, e)
	}
}

// TestFullCases is about cases in which there is no place for what a plan needs.
func TestFullCases(t *testing.T) {
	box := []any{gauge(1, 100, -2, 2), gauge(2, 100, 0, 0), gauge(3, 100, 0, 0)}
	limits := span(98, 101)
	// 58 nodes: 3, and 27 comparisons of two gauges, and one of one.
	nodes := slices.Clone(box)
	for day := range 27 {
		nodes = append(nodes, cold(100+day, []int{2}, []int{3}, 0, 0))
	}
	nodes = append(nodes, cold(99, []int{2}, nil, 100, 0))
	// 40 comparisons, and then one less.
	full := slices.Clone(box)
	for day := range api.MaxCompares {
		full = append(full, cold(100+day, []int{2}, nil, 100, 0))
	}
	for i, x := range []struct {
		about []any
		plan  []api.Compare
		want  []int
		e     api.Errno
	}{
		{nodes, nil, nil, api.ErrNone},
		{nodes, []api.Compare{alone(5, 1, 0)}, []int{0}, api.OK},
		{nodes, []api.Compare{alone(6, 1, 0)}, nil, api.ErrNone},                   // There is no place for a look at the day 5.
		{nodes, []api.Compare{cold(5, []int{1}, []int{2}, 0, 0)}, nil, api.ErrArg}, // 60 nodes
		{full, []api.Compare{alone(5, 1, 0)}, nil, api.ErrArg},
		{full[:len(full)-1], []api.Compare{alone(5, 1, 0)}, []int{0}, api.OK},
		{full[:len(full)-1], []api.Compare{alone(5, 1, 1), alone(5, 1, 1)}, nil, api.ErrNone},
		{full[:len(full)-2], []api.Compare{cold(5, []int{1}, []int{2}, 0, 1), cold(5, []int{1}, []int{2}, 0, 1)}, nil, api.ErrNone},
	} {
		if got, e := room.Settle(facts(1, 1, 1, x.about...), 1, 1, 5, limits, x.plan); !slices.Equal(got, x.want) || e != x.e {
			t.Error("P8.8: Settle of a full case:", i, got, e)
		}
	}
	// What a comparison shows of a length beyond the greatest one makes no valid case.
	long := facts(1, 1, 1, gauge(1, api.MaxLen, -1, 1))
	for _, x := range []struct {
		lo   int
		want []int
		e    api.Errno
	}{{-1, nil, api.ErrNone}, {-2, nil, api.ErrNone}} {
		long[0].Gauge.Tol = span(x.lo, 1)
		if got, e := room.Settle(long, 1, 1, 5, span(0, api.MaxLen), []api.Compare{alone(5, 1, 0)}); !slices.Equal(got, x.want) || e != x.e {
			t.Error("P8.8: Settle of great lengths:", got, e)
		}
	}
	long[0].Gauge.Tol = span(-2, 0)
	if got, e := room.Settle(long, 1, 1, 5, span(0, api.MaxLen-1), []api.Compare{alone(5, 1, 0)}); !slices.Equal(got, []int{0}) || e != api.OK {
		t.Error("P8.8: Settle of great lengths:", got, e)
	}
}

// quest is a question by the words of the chapter.
type quest struct {
	m          api.Mixed
	label, day int
	limits     api.Span
	plan       []api.Compare
}

// with returns the case with some comparisons of the plan, which show some results.
func (q quest) with(list, results []int) api.Mixed {
	m := q.m
	m.Book.Compares = slices.Clone(m.Book.Compares)
	for i, which := range list {
		c := q.plan[which]
		c.ID, c.Diff = i+1, results[i]
		m.Book.Compares = append(m.Book.Compares, c)
	}
	return m
}

// results returns all results of a comparison of the plan; none if it is not possible.
func (q quest) results(t *testing.T, which int) []int {
	t.Helper()
	m := q.with([]int{which}, []int{0})
	if q.plan[which].ID != 0 || swap.Check(m) != api.OK {
		return nil
	}
	ways, _ := swap.All(q.m)
	lo, hi := mostInt, leastInt
	for _, way := range ways {
		before, _ := swap.Translate(q.m, way)
		behind, _ := swap.Translate(m, way)
		s, e := compare.Predict(before, behind.Compares[len(behind.Compares)-1])
		if e == api.OK {
			lo, hi = min(lo, s.Lo), max(hi, s.Hi)
		} else if e != api.ErrNone {
			t.Fatal("P8.8: Predict:", m, way, e)
		}
	}
	var all []int
	for n := lo; n <= hi && len(all) < 1000; n++ {
		all = append(all, n)
	}
	return all
}

// isDecided reports whether the verdict of a case is not open.
func (q quest) isDecided(t *testing.T, m api.Mixed) bool {
	t.Helper()
	if swap.Check(m) != api.OK {
		return false
	}
	if _, e := swap.Least(m); e == api.ErrNone {
		return true
	}
	_, e := swap.Coulds(m, q.label, q.day)
	return e == api.OK && judgeOf(t, m, q.label, q.day, q.limits) != api.ShOpen
}

// answer returns what Settle has to return for a case for which Judge returns OK.
func (q quest) answer(t *testing.T) ([]int, api.Errno) {
	t.Helper()
	if len(q.plan) > api.MaxPlan {
		return nil, api.ErrLimit
	}
	var results [][]int
	for i := range q.plan {
		results = append(results, q.results(t, i))
		if len(results[i]) == 0 {
			return nil, api.ErrArg
		}
	}
	most := 0
	for i, r := range results {
		if len(r) > api.MaxResults {
			return nil, api.ErrLimit
		}
		for _, s := range results[:i] {
			most = max(most, len(r)*len(s))
		}
	}
	if q.isDecided(t, q.m) {
		return nil, api.OK
	}
	for i, r := range results {
		isOpen := func(n int) bool { return !q.isDecided(t, q.with([]int{i}, []int{n})) }
		if !slices.ContainsFunc(r, isOpen) {
			return []int{i}, api.OK
		}
	}
	if most > api.MaxResults {
		return nil, api.ErrLimit
	}
	for i, r := range results {
		for j := i + 1; j < len(results); j++ {
			isOpen := func(n int) bool {
				return slices.ContainsFunc(results[j], func(o int) bool { return !q.isDecided(t, q.with([]int{i, j}, []int{n, o})) })
			}
			if !slices.ContainsFunc(r, isOpen) {
				return []int{i, j}, api.OK
			}
		}
	}
	return nil, api.ErrNone
}

// TestRandomPlans holds Settle against the words of the chapter.
func TestRandomPlans(t *testing.T) {
	r := rand.New(rand.NewSource(84))
	lengths, errors := map[int]int{}, map[api.Errno]int{}
	for _, s := range scenes(700, 4, 2, 4, false) {
		l, last := written(r, s)
		m := mustGather(t, l, last)
		q := quest{m: m, label: s.b.Gauges[r.Intn(len(s.b.Gauges))].ID, day: 1 + r.Intn(sceneDays)}
		coulds, e := room.Told(l, last, q.label, q.day)
		if e != api.OK {
			continue
		}
		// The limits begin or end next to what is told.
		some := coulds[r.Intn(len(coulds))].Len
		q.limits = span(some.Lo, (some.Lo+some.Hi)/2+r.Intn(2))
		for range r.Intn(4) {
			c := s.randomCompare(r, true)
			c.Error = r.Intn(2) * r.Intn(2)
			q.plan = append(q.plan, c)
		}
		if r.Intn(30) == 0 {
			q.plan = append(q.plan, api.Compare{ID: r.Intn(2)})
		}
		want, e := q.answer(t)
		got, f := room.Settle(l, last, q.label, q.day, q.limits, q.plan)
		if !slices.Equal(got, want) || e != f {
			t.Fatal("P8.8: Settle:", l, last, q, got, f, want, e)
		}
		errors[e]++
		if e == api.OK {
			lengths[len(got)]++
		}
	}
	if lengths[0] < 50 || lengths[1] < 30 || lengths[2] < 3 || errors[api.ErrNone] < 30 || errors[api.ErrLimit] < 10 || errors[api.ErrArg] < 5 {
		t.Error("too few answers:", lengths, errors)
	}
}
