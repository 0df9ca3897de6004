package compare_test

import (
	"slices"
	"testing"

	"wringing/api"
	"wringing/compare"
)

// fault makes a valid book invalid.
type fault struct {
	name   string
	change func(b *api.Book)
	e      api.Errno
}

// withLate is the book of the chapter with a third gauge, which is made on the day 19, and another use of the first one.
func withLate() api.Book {
	late := gauge(3, 5, 0, 0)
	late.Made = 19
	return changed(example(), func(b *api.Book) {
		b.Gauges = append(b.Gauges, late)
		b.Uses = append(b.Uses, use(1, 15))
	})
}

// faults are changes of the book withLate, in the order in which Check looks for them.
func faults() []fault {
	setGauge := func(change func(g *api.Gauge)) func(b *api.Book) {
		return func(b *api.Book) { change(&b.Gauges[0]) }
	}
	addLoan := func(l api.Loan) func(b *api.Book) {
		return func(b *api.Book) { b.Loans = append(b.Loans, l) }
	}
	addCompare := func(change func(c *api.Compare)) func(b *api.Book) {
		return func(b *api.Book) {
			c := cold(8, 12, []int{1}, []int{2}, 0, 0)
			change(&c)
			b.Compares = append(b.Compares, c)
		}
	}
	return []fault{
		{"film below 0", func(b *api.Book) { b.Film.Lo = -1 }, api.ErrArg},
		{"film turned round", func(b *api.Book) { b.Film = span(3, 2) }, api.ErrArg},
		{"film too great", func(b *api.Book) { b.Film.Hi = api.MaxFilm + 1 }, api.ErrArg},
		{"gauges", func(b *api.Book) { b.Gauges = slices.Repeat(b.Gauges[:1], api.MaxGauges+1) }, api.ErrLimit},
		{"uses", func(b *api.Book) { b.Uses = make([]api.Use, api.MaxUses+1) }, api.ErrLimit},
		{"loans", func(b *api.Book) { b.Loans = make([]api.Loan, api.MaxLoans+1) }, api.ErrLimit},
		{"comparisons", func(b *api.Book) { b.Compares = make([]api.Compare, api.MaxCompares+1) }, api.ErrLimit},
		{"looks", func(b *api.Book) { b.Looks = make([]api.Node, api.MaxLooks+1) }, api.ErrLimit},

		{"gauge: ID 0", setGauge(func(g *api.Gauge) { g.ID = 0 }), api.ErrArg},
		{"gauge: ID too great", setGauge(func(g *api.Gauge) { g.ID = api.MaxID + 1 }), api.ErrArg},
		{"gauge: made before the day 0", setGauge(func(g *api.Gauge) { g.Made = -1 }), api.ErrArg},
		{"gauge: made too late", setGauge(func(g *api.Gauge) { g.Made = api.MaxDay + 1 }), api.ErrArg},
		{"gauge: Nominal 0", setGauge(func(g *api.Gauge) { g.Nominal = 0 }), api.ErrArg},
		{"gauge: Nominal too great", setGauge(func(g *api.Gauge) { g.Nominal = api.MaxLen + 1 }), api.ErrArg},
		{"gauge: Tol turned round", setGauge(func(g *api.Gauge) { g.Tol = span(1, 0) }), api.ErrArg},
		{"gauge: Tol.Lo too little", setGauge(func(g *api.Gauge) { g.Tol.Lo = -api.MaxTol - 1 }), api.ErrArg},
		{"gauge: Tol.Hi too great", setGauge(func(g *api.Gauge) { g.Tol.Hi = api.MaxTol + 1 }), api.ErrArg},
		{"gauge: growth without a denominator", setGauge(func(g *api.Gauge) { g.Growth = api.Rat{} }), api.ErrArg},
		{"gauge: growth not shortened", setGauge(func(g *api.Gauge) { g.Growth = rat(2, 4) }), api.ErrArg},
		{"gauge: growth too great", setGauge(func(g *api.Gauge) { g.Growth = rat(api.MaxGrowth+1, 1) }), api.ErrArg},
		{"gauge: growth too little", setGauge(func(g *api.Gauge) { g.Growth = rat(-api.MaxGrowth-1, 1) }), api.ErrArg},
		{"gauge: growth too fine", setGauge(func(g *api.Gauge) { g.Growth = rat(1, api.MaxPart+1) }), api.ErrArg},
		{"gauge: Wear below 0", setGauge(func(g *api.Gauge) { g.Wear = -1 }), api.ErrArg},
		{"gauge: Wear too great", setGauge(func(g *api.Gauge) { g.Wear = api.MaxWear + 1 }), api.ErrArg},
		{"gauge: same ID", func(b *api.Book) { b.Gauges[1].ID = b.Gauges[0].ID }, api.ErrTwice},
		{"gauge: lesser ID", func(b *api.Book) { b.Gauges[2].ID = 1 }, api.ErrTwice},

		{"use: day below 0", func(b *api.Book) { b.Uses = append(b.Uses, use(9, -1)) }, api.ErrArg},
		{"use: day too great", func(b *api.Book) { b.Uses = append(b.Uses, use(9, api.MaxDay+1)) }, api.ErrArg},
		{"use: no gauge", func(b *api.Book) { b.Uses = append(b.Uses, use(9, 0)) }, api.ErrNone},
		{"use: before it was made", func(b *api.Book) { b.Uses = append(b.Uses, use(3, 18)) }, api.ErrState},

		{"loan: days below 0", addLoan(loan(9, -1, 5, 0)), api.ErrArg},
		{"loan: days turned round", addLoan(loan(9, 6, 5, 0)), api.ErrArg},
		{"loan: days too great", addLoan(loan(9, 6, api.MaxDay+1, 0)), api.ErrArg},
		{"loan: Wear below 0", addLoan(loan(9, 5, 6, -1)), api.ErrArg},
		{"loan: Wear too great", addLoan(loan(9, 5, 6, api.MaxWear+1)), api.ErrArg},
		{"loan: no gauge", addLoan(loan(9, 5, 6, 0)), api.ErrNone},
		{"loan: before it was made", addLoan(loan(3, 18, 25, 0)), api.ErrState},
		{"loan: a common day", addLoan(loan(1, 29, 35, 0)), api.ErrClash},
		{"loan: a common day in front", addLoan(loan(1, 16, 20, 0)), api.ErrClash},
		{"loan: within another one", addLoan(loan(1, 25, 25, 0)), api.ErrClash},
		{"loan: around another one", addLoan(loan(1, 16, 35, 0)), api.ErrClash},
		{"loan: a use on its first day", addLoan(loan(1, 15, 16, 0)), api.ErrClash},
		{"loan: a use on its last day", addLoan(loan(1, 14, 15, 0)), api.ErrClash},
		{"loan: a use on a day between", addLoan(loan(1, 14, 16, 0)), api.ErrClash},

		{"comparison: ID 0", addCompare(func(c *api.Compare) { c.ID = 0 }), api.ErrArg},
		{"comparison: ID too great", addCompare(func(c *api.Compare) { c.ID = api.MaxID + 1 }), api.ErrArg},
		{"comparison: day below 0", addCompare(func(c *api.Compare) { c.Day = -1 }), api.ErrArg},
		{"comparison: day too great", addCompare(func(c *api.Compare) { c.Day = api.MaxDay + 1 }), api.ErrArg},
		{"comparison: Diff too little", addCompare(func(c *api.Compare) { c.Diff = -api.MaxLen - 1 }), api.ErrArg},
		{"comparison: Diff too great", addCompare(func(c *api.Compare) { c.Diff = api.MaxLen + 1 }), api.ErrArg},
		{"comparison: Error below 0", addCompare(func(c *api.Compare) { c.Error = -1 }), api.ErrArg},
		{"comparison: Error too great", addCompare(func(c *api.Compare) { c.Error = api.MaxTol + 1 }), api.ErrArg},
		{"comparison: Heat turned round", addCompare(func(c *api.Compare) { c.Heat = span(1, 0) }), api.ErrArg},
		{"comparison: Heat too little", addCompare(func(c *api.Compare) { c.Heat.Lo = -api.MaxHeat - 1 }), api.ErrArg},
		{"comparison: Heat too great", addCompare(func(c *api.Compare) { c.Heat.Hi = api.MaxHeat + 1 }), api.ErrArg},
		{"comparison: A not in order", addCompare(func(c *api.Compare) { c.A = []int{2, 1} }), api.ErrArg},
		{"comparison: B not in order", addCompare(func(c *api.Compare) { c.B = []int{2, 1} }), api.ErrArg},
		{"comparison: A twice", addCompare(func(c *api.Compare) { c.A = []int{1, 1} }), api.ErrArg},
		{"comparison: A with 0", addCompare(func(c *api.Compare) { c.A = []int{0, 1} }), api.ErrArg},
		{"comparison: B with an ID that is too great", addCompare(func(c *api.Compare) { c.B = []int{2, api.MaxID + 1} }), api.ErrArg},
		{"comparison: A with too many", addCompare(func(c *api.Compare) { c.A = []int{1, 2, 3, 4, 5, 6, 7} }), api.ErrArg},
		{"comparison: B with too many", addCompare(func(c *api.Compare) { c.B = []int{1, 2, 3, 4, 5, 6, 7} }), api.ErrArg},
		{"comparison: same ID", addCompare(func(c *api.Compare) { *c = cold(7, 0, []int{9}, nil, 0, 0) }), api.ErrTwice},
		{"comparison: no gauge in A", addCompare(func(c *api.Compare) { c.A = []int{9} }), api.ErrNone},
		{"comparison: no gauge in B", addCompare(func(c *api.Compare) { c.B = []int{2, 9} }), api.ErrNone},
		{"comparison: no gauge in both", addCompare(func(c *api.Compare) { c.A, c.B = []int{1, 9}, []int{2, 9} }), api.ErrNone},
		{"comparison: before A was made", addCompare(func(c *api.Compare) { c.Day, c.A = 18, []int{3} }), api.ErrState},
		{"comparison: before B was made", addCompare(func(c *api.Compare) { c.Day, c.A, c.B = 18, []int{1, 3}, []int{2, 3} }), api.ErrState},
		{"comparison: away", addCompare(func(c *api.Compare) { c.Day = 20 }), api.ErrClash},
		{"comparison: away, and in both", addCompare(func(c *api.Compare) { *c = cold(8, 29, []int{1, 2}, []int{1}, 0, 0) }), api.ErrClash},
		{"comparison: two left of A", addCompare(func(c *api.Compare) { c.A, c.B = []int{1, 2}, nil }), api.ErrArg},
		{"comparison: two left of B", addCompare(func(c *api.Compare) { c.A, c.B = nil, []int{1, 2} }), api.ErrArg},
		{"comparison: none left", addCompare(func(c *api.Compare) { c.A, c.B = []int{1, 2}, []int{1, 2} }), api.ErrArg},
		{"comparison: no gauge at all", addCompare(func(c *api.Compare) { c.A, c.B = nil, nil }), api.ErrArg},

		{"look: day below 0", func(b *api.Book) { b.Looks = append(b.Looks, node(9, -1)) }, api.ErrArg},
		{"look: day too great", func(b *api.Book) { b.Looks = append(b.Looks, node(9, api.MaxDay+1)) }, api.ErrArg},
		{"look: no gauge", func(b *api.Book) { b.Looks = append(b.Looks, node(9, 0)) }, api.ErrNone},
		{"look: before it was made", func(b *api.Book) { b.Looks = append(b.Looks, node(3, 18)) }, api.ErrState},
	}
}

func TestCheckFaults(t *testing.T) {
	for _, b := range []api.Book{example(), withLate()} {
		if e := compare.Check(b); e != api.OK {
			t.Fatal("P5.1: Check:", b, e)
		}
	}
	for _, f := range faults() {
		if e := compare.Check(changed(withLate(), f.change)); e != f.e {
			t.Error("P5.1: Check:", f.name, e)
		}
	}
}

// group returns the part of a book that a fault is in.
func group(f fault) string {
	for i := range f.name {
		if f.name[i] == ':' {
			return f.name[:i]
		}
	}
	return "size"
}

// TestCheckFirstFault joins faults of different parts of the book: the part that is checked first tells the error.
func TestCheckFirstFault(t *testing.T) {
	all := faults()
	for i, f := range all {
		for _, later := range all[i+1:] {
			if group(f) == group(later) {
				continue
			}
			// What comes later is changed first, because a fault of the sizes may empty a list.
			b := changed(changed(withLate(), later.change), f.change)
			if e := compare.Check(b); e != f.e {
				t.Error("P5.1: Check:", f.name, "and", later.name, e)
			}
		}
	}
}

// TestCheckOrder has faults of several elements of a part, or of one of them.
func TestCheckOrder(t *testing.T) {
	late := withLate()
	for i, c := range []struct {
		b      api.Book
		change func(b *api.Book)
		e      api.Errno
	}{
		{example(), func(b *api.Book) { b.Film, b.Looks = span(2, 1), make([]api.Node, api.MaxLooks+1) }, api.ErrArg},
		{example(), func(b *api.Book) { b.Gauges = append(b.Gauges, gauge(2, 5, 0, 0), api.Gauge{}) }, api.ErrTwice},
		{example(), func(b *api.Book) { b.Gauges = append(b.Gauges, api.Gauge{}, gauge(2, 5, 0, 0)) }, api.ErrArg},
		{example(), func(b *api.Book) { b.Gauges = append(b.Gauges, gauge(2, 0, 0, 0)) }, api.ErrArg},
		{late, func(b *api.Book) { b.Uses = []api.Use{use(3, 18), use(9, -1)} }, api.ErrState},
		{late, func(b *api.Book) { b.Uses = []api.Use{use(9, 5), use(3, 18)} }, api.ErrNone},
		{late, func(b *api.Book) { b.Uses = []api.Use{use(9, -1), use(3, 18)} }, api.ErrArg},
		{late, func(b *api.Book) { b.Loans = []api.Loan{loan(3, 18, 19, 0), loan(9, 1, 0, 0)} }, api.ErrState},
		{late, func(b *api.Book) { b.Loans = []api.Loan{loan(1, 9, 10, 0), loan(9, 1, 0, 0)} }, api.ErrClash},
		{late, func(b *api.Book) { b.Loans = []api.Loan{loan(9, 1, 2, 0), loan(1, 9, 10, 0)} }, api.ErrNone},
		{late, func(b *api.Book) { b.Uses, b.Loans = []api.Use{use(3, 19)}, []api.Loan{loan(3, 18, 20, 0)} }, api.ErrState},
		{late, func(b *api.Book) { b.Compares = append(b.Compares, cold(8, 18, []int{3}, []int{9}, 0, 0)) }, api.ErrNone},
		{late, func(b *api.Book) { b.Compares = append(b.Compares, cold(7, 18, []int{3}, []int{9}, 0, 0)) }, api.ErrTwice},
		{late, func(b *api.Book) { b.Compares = append(b.Compares, cold(7, 18, []int{3, 3}, nil, 0, 0)) }, api.ErrArg},
		{late, func(b *api.Book) {
			b.Loans = []api.Loan{loan(1, 18, 18, 0)}
			b.Compares = append(b.Compares, cold(8, 18, []int{1}, []int{3}, 0, 0))
		}, api.ErrState},
		{late, func(b *api.Book) { b.Compares = append(b.Compares, cold(8, 21, []int{1, 2, 3}, nil, 0, 0)) }, api.ErrClash},
		{late, func(b *api.Book) { b.Compares = append(b.Compares, cold(8, 18, []int{1, 2, 3}, nil, 0, 0)) }, api.ErrState},
		{late, func(b *api.Book) { b.Compares = append(b.Compares, cold(8, 18, []int{1, 2, 9}, nil, 0, 0)) }, api.ErrNone},
		{late, func(b *api.Book) { b.Compares = append([]api.Compare{cold(8, 18, nil, nil, 0, 0)}, api.Compare{}) }, api.ErrArg},
		{late, func(b *api.Book) {
			b.Compares = []api.Compare{cold(8, 18, []int{3}, nil, 0, 0), {}}
		}, api.ErrState},
		{late, func(b *api.Book) { b.Looks = []api.Node{node(3, 18), node(9, -1)} }, api.ErrState},
		{late, func(b *api.Book) { b.Looks = []api.Node{node(9, 18), node(9, -1)} }, api.ErrNone},
		{filled(), func(b *api.Book) { b.Looks[9] = node(12, 300) }, api.ErrLimit},
		{filled(), func(b *api.Book) { b.Looks[8], b.Looks[9] = node(12, 300), node(13, 300) }, api.ErrNone},
	} {
		if e := compare.Check(changed(c.b, c.change)); e != c.e {
			t.Error("P5.1: Check:", i, e)
		}
	}
}

func TestCheckAccepts(t *testing.T) {
	huge := api.Gauge{ID: api.MaxID, Made: api.MaxDay, Nominal: api.MaxLen, Tol: span(-api.MaxTol, api.MaxTol), Growth: rat(-api.MaxGrowth, 99), Wear: api.MaxWear}
	tiny := api.Gauge{ID: 1, Nominal: 1, Tol: span(-api.MaxTol, -api.MaxTol), Growth: rat(999, api.MaxPart)}
	for i, b := range []api.Book{
		{},
		{Film: span(0, api.MaxFilm)},
		{Film: span(api.MaxFilm, api.MaxFilm)},
		{Gauges: []api.Gauge{tiny, huge}},
		{Gauges: []api.Gauge{huge}, Uses: []api.Use{use(api.MaxID, api.MaxDay)}},
		{Gauges: []api.Gauge{huge}, Loans: []api.Loan{loan(api.MaxID, api.MaxDay, api.MaxDay, api.MaxWear)}},
		{Gauges: []api.Gauge{tiny}, Loans: []api.Loan{loan(1, 0, api.MaxDay, 0)}},
		{Gauges: []api.Gauge{tiny}, Uses: []api.Use{use(1, 5), use(1, 5), use(1, 0)}},
		{Gauges: []api.Gauge{tiny}, Looks: []api.Node{node(1, api.MaxDay), node(1, 0), node(1, api.MaxDay)}},
		{Gauges: []api.Gauge{tiny, huge}, Compares: []api.Compare{{ID: api.MaxID, Day: api.MaxDay, A: []int{1}, B: []int{api.MaxID}, Diff: api.MaxLen, Error: api.MaxTol, Heat: span(-api.MaxHeat, api.MaxHeat)}}},
		{Gauges: []api.Gauge{tiny, huge}, Compares: []api.Compare{{ID: 2, Day: api.MaxDay, A: []int{1, api.MaxID}, B: []int{api.MaxID}, Diff: -api.MaxLen, Heat: span(api.MaxHeat, api.MaxHeat)}, {ID: 1, B: []int{1}}}},
		changed(plain(6), func(b *api.Book) {
			b.Compares = []api.Compare{cold(1, 0, []int{1, 2, 3, 4, 5, 6}, []int{1, 2, 3, 4, 5}, 0, 0), cold(2, 0, []int{1, 2, 3, 4, 5}, []int{1, 2, 3, 4, 5, 6}, 0, 0)}
		}),
		changed(example(), func(b *api.Book) {
			b.Loans = append(b.Loans, loan(2, 20, 29, 3), loan(1, 11, 19, 0), loan(1, 30, 30, 0))
		}),
		changed(example(), func(b *api.Book) { b.Compares = append(b.Compares, cold(6, 25, []int{2}, nil, 0, 0)) }),
		changed(example(), func(b *api.Book) { b.Looks = []api.Node{node(1, 25)} }),
		filled(),
	} {
		if e := compare.Check(b); e != api.OK {
			t.Error("P5.1: Check:", i, e)
		}
	}
}

// TestNodesLimit has as many nodes as there may be, and one more, in each way in which a book has nodes.
func TestNodesLimit(t *testing.T) {
	if n := len(mustNodes(t, filled())); n != api.MaxNodes-1 {
		t.Fatal("P5.6: Nodes of a full book:", n)
	}
	for i, change := range []func(b *api.Book){
		func(b *api.Book) { b.Looks[9].Day++ },
		func(b *api.Book) { b.Looks[9].Gauge++ },
		func(b *api.Book) { b.Compares[0].B = []int{5}; b.Compares[0].Diff = 0 },
		func(b *api.Book) { b.Compares[0].A, b.Compares[0].B = []int{1, 2}, []int{2, 3} },
	} {
		if e := compare.Check(changed(filled(), change)); e != api.ErrLimit {
			t.Error("P5.1: Check of a book with a node too many:", i, e)
		}
	}
	fewer := changed(filled(), func(b *api.Book) { b.Compares[0].Day = 0 })
	if e := compare.Check(fewer); e != api.OK || len(mustNodes(t, fewer)) != api.MaxNodes-2 {
		t.Error("P5.1: Check of a book with a node less:", e)
	}
}

// TestErrorOfCheckComesFirst calls each function with invalid books, and with arguments that would be errors, too.
func TestErrorOfCheckComesFirst(t *testing.T) {
	wrong := given{which: -1, gauge: -1, day: -1, from: -1, to: -1, lengths: []int{leastInt}, x: []int{0}, y: []int{0}}
	for _, f := range faults() {
		b := changed(withLate(), f.change)
		for _, c := range calls() {
			for _, g := range []given{exampleGiven(), wrong, {}} {
				if x, e := c.run(b, g); e != f.e || !isNothing(x) {
					t.Error("P5.1:", c.name, f.name, x, e)
				}
			}
		}
	}
}

// TestErrorsOfArguments has for each function its wrong arguments, in the order in which their errors come.
func TestErrorsOfArguments(t *testing.T) {
	for _, change := range []struct {
		names []string
		g     func(g *given)
		e     api.Errno
	}{
		{[]string{"Growth", "Films", "Says", "Shows"}, func(g *given) { g.which, g.lengths = -1, nil }, api.ErrArg},
		{[]string{"Growth", "Films", "Says", "Shows"}, func(g *given) { g.which = 1 }, api.ErrArg},
		{[]string{"Growth", "Films", "Says", "Shows"}, func(g *given) { g.which = mostInt }, api.ErrArg},
		{[]string{"Growth", "Films", "Says", "Shows"}, func(g *given) { g.which = leastInt }, api.ErrArg},
		{[]string{"Used", "Away", "Can"}, func(g *given) { g.gauge, g.day = 9, -1 }, api.ErrArg},
		{[]string{"Used", "Away", "Can"}, func(g *given) { g.gauge, g.day = 9, api.MaxDay+1 }, api.ErrArg},
		{[]string{"Used", "Away"}, func(g *given) { g.gauge, g.day = 9, api.MaxDay }, api.ErrNone},
		{[]string{"Loss"}, func(g *given) { g.gauge, g.from = 9, -1 }, api.ErrArg},
		{[]string{"Loss"}, func(g *given) { g.gauge, g.from = 9, api.MaxDay+1 }, api.ErrArg},
		{[]string{"Loss"}, func(g *given) { g.gauge, g.to = 9, -1 }, api.ErrArg},
		{[]string{"Loss"}, func(g *given) { g.gauge, g.to = 9, api.MaxDay+1 }, api.ErrArg},
		{[]string{"Loss"}, func(g *given) { g.gauge, g.from, g.to = 9, 5, 4 }, api.ErrNone},
		{[]string{"Used", "Away", "Loss", "Wears"}, func(g *given) { g.gauge, g.lengths = 0, nil }, api.ErrNone},
		{[]string{"Used", "Away", "Loss", "Wears"}, func(g *given) { g.gauge = 3 }, api.ErrNone},
		{[]string{"Used", "Away", "Loss", "Wears"}, func(g *given) { g.gauge = leastInt }, api.ErrNone},
		{[]string{"Fits", "Wears", "Shows"}, func(g *given) { g.lengths = nil }, api.ErrArg},
		{[]string{"Fits", "Wears", "Shows"}, func(g *given) { g.lengths = g.lengths[:3] }, api.ErrArg},
		{[]string{"Fits", "Wears", "Shows"}, func(g *given) { g.lengths = append(g.lengths, 0) }, api.ErrArg},
		{[]string{"Fits", "Wears", "Shows"}, func(g *given) { g.lengths[0] = api.MaxBound + 1 }, api.ErrArg},
		{[]string{"Fits", "Wears", "Shows"}, func(g *given) { g.lengths[3] = -api.MaxBound - 1 }, api.ErrArg},
		{[]string{"Fits", "Wears", "Shows"}, func(g *given) { g.lengths[2] = leastInt }, api.ErrArg},
		{[]string{"Fits", "Wears", "Shows"}, func(g *given) { g.lengths[1] = mostInt }, api.ErrArg},
		{[]string{"Wears"}, func(g *given) { g.lengths[0] = api.MaxBound }, api.ErrProof},
		{[]string{"Wears"}, func(g *given) { g.lengths[0] = -api.MaxBound }, api.ErrProof},
		{[]string{"Can"}, func(g *given) { g.x = []int{0} }, api.ErrArg},
		{[]string{"Can"}, func(g *given) { g.y = []int{2, 2} }, api.ErrArg},
		{[]string{"Index"}, func(g *given) { g.n = node(2, 11) }, api.ErrNone},
		{[]string{"Index"}, func(g *given) { g.n = node(2, -1) }, api.ErrNone},
		{[]string{"Index"}, func(g *given) { g.n = node(3, 10) }, api.ErrNone},
		{[]string{"Index"}, func(g *given) { g.n = node(0, 0) }, api.ErrNone},
	} {
		for _, c := range calls() {
			g := exampleGiven()
			change.g(&g)
			x, e := c.run(example(), g)
			if slices.Contains(change.names, c.name) && (e != change.e || !isNothing(x)) {
				t.Error("P5.1:", c.name, g, x, e)
			}
		}
	}
	for _, c := range calls() {
		if x, e := c.run(example(), exampleGiven()); e != api.OK {
			t.Error("P5.1:", c.name, x, e)
		}
	}
}

func TestWithLookWithout(t *testing.T) {
	b := example()
	c := cold(3, 12, []int{1, 2}, []int{1}, -3, 2)
	more, e := compare.With(b, c)
	if want := changed(b, func(b *api.Book) { b.Compares = append(b.Compares, c) }); !same(more, want) || e != api.OK {
		t.Error("P5.2: With:", more, e)
	}
	for i, n := range []api.Node{node(2, 10), node(2, 11), node(1, 25), node(1, 0), node(2, api.MaxDay)} {
		looked, e := compare.Look(more, n)
		if want := changed(more, func(b *api.Book) { b.Looks = append(b.Looks, n) }); !same(looked, want) || e != api.OK {
			t.Error("P5.2: Look:", i, looked, e)
		}
	}
	both := changed(more, func(b *api.Book) { b.Looks = []api.Node{node(1, 3)} })
	for i, l := range []struct{ ids, left []int }{
		{nil, []int{7, 3}}, {[]int{}, []int{7, 3}}, {[]int{1}, []int{7, 3}}, {[]int{7}, []int{3}}, {[]int{3}, []int{7}}, {[]int{3, 3, 0, -1}, []int{7}},
		{[]int{3, 7}, nil}, {[]int{7, 3, 7}, nil}, {[]int{leastInt, mostInt, 7}, []int{3}},
	} {
		less, e := compare.Without(both, l.ids)
		var ids []int
		for _, c := range less.Compares {
			ids = append(ids, c.ID)
		}
		want := changed(both, func(b *api.Book) { b.Compares = less.Compares })
		if e != api.OK || !slices.Equal(ids, l.left) || !same(less, want) || len(less.Looks) != 1 {
			t.Error("P5.2: Without:", i, less, e)
		}
		for _, c := range less.Compares {
			from := both.Compares[slices.IndexFunc(both.Compares, func(d api.Compare) bool { return d.ID == c.ID })]
			if !same(api.Book{Compares: []api.Compare{c}}, api.Book{Compares: []api.Compare{from}}) {
				t.Error("P5.2: Without changed a comparison:", i, c)
			}
		}
	}
}

// TestErrorsOfNewBooks adds to a book what makes it invalid.
func TestErrorsOfNewBooks(t *testing.T) {
	for i, c := range []struct {
		b api.Book
		c api.Compare
		e api.Errno
	}{
		{example(), cold(7, 10, []int{1}, []int{2}, 0, 0), api.ErrTwice},
		{example(), cold(8, 10, []int{1}, []int{3}, 0, 0), api.ErrNone},
		{example(), cold(8, 20, []int{1}, []int{2}, 0, 0), api.ErrClash},
		{example(), cold(8, 20, []int{1, 2}, []int{1, 2}, 0, 0), api.ErrClash},
		{example(), cold(8, 10, []int{1, 2}, []int{1, 2}, 0, 0), api.ErrArg},
		{example(), cold(8, -1, []int{1}, []int{2}, 0, 0), api.ErrArg},
		{example(), api.Compare{}, api.ErrArg},
		{changed(example(), func(b *api.Book) { b.Gauges[1].Made = 10 }), cold(8, 9, []int{2}, nil, 0, 0), api.ErrState},
		{filled(), cold(99, 100, []int{1}, nil, 100, 500), api.ErrLimit},
		{changed(filled(), func(b *api.Book) { b.Compares = b.Compares[1:] }), cold(99, 100, []int{1}, []int{2}, 100, 500), api.ErrLimit},
		{changed(filled(), func(b *api.Book) { b.Compares = b.Compares[1:] }), cold(99, 100, []int{1}, nil, 100, 500), api.OK},
	} {
		more, e := compare.With(c.b, c.c)
		if e != c.e || (e != api.OK) != isNothing(more) {
			t.Error("P5.2: With:", i, more, e)
		}
		x, e := compare.Predict(c.b, c.c)
		if e != c.e || (e != api.OK) != isNothing(x) {
			t.Error("P5.10: Predict:", i, x, e)
		}
	}
	for i, c := range []struct {
		b api.Book
		n api.Node
		e api.Errno
	}{
		{example(), node(3, 5), api.ErrNone},
		{example(), node(0, 0), api.ErrNone},
		{example(), node(3, -1), api.ErrArg},
		{example(), node(1, api.MaxDay+1), api.ErrArg},
		{changed(example(), func(b *api.Book) { b.Gauges[1].Made = 10 }), node(2, 9), api.ErrState},
		{filled(), node(1, 100), api.ErrLimit},
		{changed(filled(), func(b *api.Book) { b.Looks = b.Looks[1:] }), node(1, 100), api.OK},
		{changed(filled(), func(b *api.Book) { b.Looks = b.Looks[3:] }), node(1, 1), api.OK},
		{changed(filled(), func(b *api.Book) { b.Looks = b.Looks[:9] }), node(1, 1), api.ErrLimit},
	} {
		looked, e := compare.Look(c.b, c.n)
		if e != c.e || (e != api.OK) != isNothing(looked) {
			t.Error("P5.2: Look:", i, looked, e)
		}
	}
}

func TestCancel(t *testing.T) {
	for i, c := range []struct{ a, b, x, y []int }{
		{[]int{1, 2, 3}, []int{2, 4}, []int{1, 3}, []int{4}},
		{nil, nil, nil, nil},
		{[]int{}, []int{5}, nil, []int{5}},
		{[]int{5}, nil, []int{5}, nil},
		{[]int{5}, []int{5}, nil, nil},
		{[]int{1, 2, 3, 4, 5, 6}, []int{1, 3, 5, 7, 8, 9}, []int{2, 4, 6}, []int{7, 8, 9}},
		{[]int{1, 2, 3, 4, 5, 6}, []int{1, 2, 3, 4, 5, 6}, nil, nil},
		{[]int{1, api.MaxID}, []int{2, api.MaxID}, []int{1}, []int{2}},
		{[]int{1, 2}, []int{3, 4}, []int{1, 2}, []int{3, 4}},
	} {
		x, y, e := compare.Cancel(c.a, c.b)
		if !slices.Equal(x, c.x) || !slices.Equal(y, c.y) || e != api.OK {
			t.Error("P5.3: Cancel:", i, x, y, e)
		}
	}
	good := []int{1, 2}
	for i, bad := range [][]int{
		{0}, {-1}, {leastInt}, {mostInt}, {api.MaxID + 1}, {1, 1}, {2, 1}, {1, 2, 2}, {1, 3, 2}, {1, 2, 3, 4, 5, 6, 7}, {1, 2, api.MaxID + 1}, make([]int, 1000),
	} {
		for _, piles := range [][2][]int{{good, bad}, {bad, good}, {bad, bad}, {bad, nil}} {
			if x, y, e := compare.Cancel(piles[0], piles[1]); e != api.ErrArg || len(x)+len(y) != 0 {
				t.Error("P5.3: Cancel:", i, x, y, e)
			}
			if can, e := compare.Can(example(), 10, piles[0], piles[1]); can || e != api.ErrArg {
				t.Error("P5.3: Can:", i, can, e)
			}
		}
	}
}

func TestUsedAway(t *testing.T) {
	b := changed(example(), func(b *api.Book) {
		b.Gauges[1].Made = 3
		b.Uses = append(b.Uses, use(2, 25), use(2, api.MaxDay), use(1, 0), use(2, 25))
		b.Loans = append(b.Loans, loan(1, 35, 35, 0), loan(2, 3, 3, 1))
	})
	for i, c := range []struct {
		gauge, day int
		used, away bool
	}{
		{1, 0, true, false}, {1, 9, false, false}, {1, 10, true, false}, {1, 11, false, false},
		{1, 19, false, false}, {1, 20, false, true}, {1, 25, false, true}, {1, 29, false, true}, {1, 30, false, false},
		{1, 34, false, false}, {1, 35, false, true}, {1, 36, false, false}, {1, api.MaxDay, false, false},
		{2, 0, false, false}, {2, 2, false, false}, {2, 3, false, true}, {2, 4, false, false}, {2, 10, false, false}, {2, 25, true, false}, {2, api.MaxDay, true, false},
	} {
		used, e := compare.Used(b, c.gauge, c.day)
		away, f := compare.Away(b, c.gauge, c.day)
		if used != c.used || away != c.away || e != api.OK || f != api.OK {
			t.Error("P5.3: Used, Away:", i, used, away, e, f)
		}
	}
}

func TestCan(t *testing.T) {
	b := changed(example(), func(b *api.Book) {
		late := gauge(4, 5, 0, 0)
		late.Made = 12
		b.Gauges = append(b.Gauges, late)
	})
	for i, c := range []struct {
		day  int
		x, y []int
		can  bool
	}{
		{25, []int{1}, []int{2}, false}, {19, []int{1}, []int{2}, true}, {20, []int{1}, []int{2}, false}, {29, []int{1}, []int{2}, false}, {30, []int{1}, []int{2}, true},
		{25, []int{1, 2}, []int{1}, false}, {25, []int{2}, nil, true}, {25, nil, []int{2}, true},
		{10, []int{1}, []int{3}, false}, {10, []int{1, 3}, []int{3}, false}, {10, nil, []int{api.MaxID}, false},
		{11, []int{4}, []int{1}, false}, {12, []int{4}, []int{1}, true}, {11, []int{1, 4}, []int{2, 4}, false}, {12, []int{1, 4}, []int{2, 4}, true},
		{10, nil, nil, false}, {10, []int{1}, []int{1}, false}, {10, []int{1, 2}, []int{1, 2}, false},
		{10, []int{1, 2}, nil, false}, {10, nil, []int{1, 2}, false}, {15, []int{1, 2}, []int{4}, false}, {15, []int{4}, []int{1, 2}, false},
		{15, []int{1, 2, 4}, []int{1, 2}, true}, {15, []int{2, 4}, []int{1, 2, 4}, true}, {15, []int{1, 2, 4}, []int{4}, false},
		{0, []int{1}, []int{2}, true}, {api.MaxDay, []int{1}, []int{2}, true},
	} {
		can, e := compare.Can(b, c.day, c.x, c.y)
		if can != c.can || e != api.OK {
			t.Error("P5.3: Can:", i, can, e)
		}
		_, e = compare.With(b, cold(8, c.day, c.x, c.y, 0, 0))
		if can != (e == api.OK) {
			t.Error("P5.3: With where Can says otherwise:", i, can, e)
		}
	}
}
