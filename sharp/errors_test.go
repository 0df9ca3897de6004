package sharp_test

import (
	"slices"
	"testing"

	"wringing/api"
	"wringing/sharp"
)

// fault is what makes calls fail.
type fault struct {
	of     []string // the functions that it concerns
	change func(b *api.Book, g *given)
	e      api.Errno
}

// faults are in the order in which a function names them.
func faults() []fault {
	node1, piles, limits, results := []string{"Interval", "Between", "History", "Judge", "Witness", "Certify", "Worst", "Best", "Settles"}, []string{"Pile", "Differ"}, []string{"Judge", "Witness", "Settles"}, []string{"Worst", "Best", "Settles"}
	all := slices.Concat(node1, piles)
	further := func(f func(c *api.Compare)) func(b *api.Book, g *given) {
		return func(b *api.Book, g *given) {
			f(&g.c)
			g.l = []api.Compare{cold(8, 12, []int{1}, []int{2}, 5, 3), g.c}
		}
	}
	return []fault{
		{all, func(b *api.Book, g *given) { b.Film = span(3, 2) }, api.ErrArg},
		{all, func(b *api.Book, g *given) { b.Looks = slices.Repeat([]api.Node{node(1, 0)}, api.MaxLooks+1) }, api.ErrLimit},
		{all, func(b *api.Book, g *given) { b.Gauges = append(b.Gauges, b.Gauges[0]) }, api.ErrTwice},
		{all, func(b *api.Book, g *given) { b.Uses = append(b.Uses, use(9, 1)) }, api.ErrNone},
		{piles, func(b *api.Book, g *given) { g.day = -1 }, api.ErrArg},
		{piles, func(b *api.Book, g *given) { g.day = api.MaxDay + 1 }, api.ErrArg},
		{piles, func(b *api.Book, g *given) {
			b.Looks = slices.Repeat([]api.Node{node(1, 0)}, api.MaxLooks)
			g.day = api.MaxDay + 1
		}, api.ErrArg},
		{piles, func(b *api.Book, g *given) {
			b.Looks = slices.Repeat([]api.Node{node(1, 0)}, api.MaxLooks)
			g.day = -1
		}, api.ErrArg},
		{piles, func(b *api.Book, g *given) { g.ids, g.x, g.y = nil, nil, nil }, api.ErrArg},
		{piles, func(b *api.Book, g *given) { g.ids, g.x = []int{1, 1}, []int{1, 1} }, api.ErrArg},
		{piles, func(b *api.Book, g *given) { g.ids, g.y = []int{2, 1}, []int{2, 1} }, api.ErrArg},
		{piles, func(b *api.Book, g *given) { g.ids, g.y = []int{0, 1}, []int{0, 2} }, api.ErrArg},
		{piles, func(b *api.Book, g *given) { g.ids, g.x = []int{1, api.MaxID + 1}, []int{1, api.MaxID + 1} }, api.ErrArg},
		{piles, func(b *api.Book, g *given) { g.ids, g.x = []int{1, 2, 3, 4, 5, 6, 7}, []int{1, 3, 4, 5} }, api.ErrArg},
		{[]string{"Differ"}, func(b *api.Book, g *given) { g.y = []int{2, 3, 4, 5} }, api.ErrArg},
		{[]string{"Differ"}, func(b *api.Book, g *given) { g.x, g.y = []int{1, 2}, []int{2, 3} }, api.ErrArg},
		{[]string{"Differ"}, func(b *api.Book, g *given) { g.x, g.y = []int{2}, []int{2} }, api.ErrArg},
		{node1, func(b *api.Book, g *given) { g.n.Day = -1 }, api.ErrArg},
		{node1, func(b *api.Book, g *given) { g.n.Day = api.MaxDay + 1 }, api.ErrArg},
		{node1, func(b *api.Book, g *given) { g.n = node(3, 5) }, api.ErrNone},
		{node1, func(b *api.Book, g *given) { g.n = api.Node{} }, api.ErrNone},
		{node1, func(b *api.Book, g *given) { b.Gauges[1].Made = 6; g.n = node(2, 5) }, api.ErrState},
		{[]string{"Between"}, func(b *api.Book, g *given) { g.m.Day = -1; g.n = node(3, 5) }, api.ErrArg},
		{[]string{"Between"}, func(b *api.Book, g *given) { g.m = node(3, 5) }, api.ErrNone},
		{piles, func(b *api.Book, g *given) { g.ids, g.x = []int{1, 3}, []int{3} }, api.ErrNone},
		{[]string{"Differ"}, func(b *api.Book, g *given) { g.y = []int{2, api.MaxID} }, api.ErrNone},
		{piles, func(b *api.Book, g *given) { b.Gauges[1].Made = 6; g.day = 5 }, api.ErrState},
		{[]string{"Differ"}, func(b *api.Book, g *given) { b.Gauges[1].Made = 6; g.day = 5; g.x = []int{1, 3} }, api.ErrNone},
		{node1, func(b *api.Book, g *given) {
			b.Looks = slices.Repeat([]api.Node{node(1, 0)}, api.MaxLooks)
			g.n = node(2, 11)
		}, api.ErrLimit},
		{piles, func(b *api.Book, g *given) {
			b.Looks = slices.Repeat([]api.Node{node(1, 0)}, api.MaxLooks-1)
			g.day = 11
		}, api.ErrLimit},
		{[]string{"Between"}, func(b *api.Book, g *given) {
			b.Looks = slices.Repeat([]api.Node{node(1, 0)}, api.MaxLooks-1)
			g.m, g.n = node(1, 11), node(2, 11)
		}, api.ErrLimit},
		{all, func(b *api.Book, g *given) { *b = contradiction() }, api.ErrClash},
		{limits, func(b *api.Book, g *given) { g.limits = span(5, 4) }, api.ErrArg},
		{limits, func(b *api.Book, g *given) { g.limits = span(1<<63-1, -1<<63) }, api.ErrArg},
		{[]string{"Witness"}, func(b *api.Book, g *given) { g.limits = span(1012, 1100) }, api.ErrNone},
		{[]string{"Witness"}, func(b *api.Book, g *given) { g.limits, g.in = span(984, 1011), false }, api.ErrNone},
		{[]string{"Best"}, func(b *api.Book, g *given) { g.l = nil }, api.ErrArg},
		{[]string{"Best"}, func(b *api.Book, g *given) { g.l = slices.Repeat(g.l, 11) }, api.ErrLimit},
		{results, further(func(c *api.Compare) { c.ID = 0 }), api.ErrArg},
		{results, further(func(c *api.Compare) { c.A, c.B = []int{1, 2}, nil }), api.ErrArg},
		{results, further(func(c *api.Compare) { c.ID = 7 }), api.ErrTwice},
		{results, further(func(c *api.Compare) { c.B = []int{3} }), api.ErrNone},
		{results, further(func(c *api.Compare) { c.Day = 20 }), api.ErrClash},
		{results, further(func(c *api.Compare) { c.A, c.B, c.Heat, c.Error = []int{1}, nil, span(1, 1), 0 }), api.ErrNone},
		{results, func(b *api.Book, g *given) {
			*b = filled()
			b.Looks = b.Looks[:9]
			g.n, g.c = node(1, 100), cold(99, 100, []int{1}, nil, 0, 0)
			g.l = []api.Compare{g.c}
		}, api.ErrLimit},
	}
}

func TestErrors(t *testing.T) {
	for i, f := range faults() {
		for _, c := range calls() {
			if !slices.Contains(f.of, c.name) {
				continue
			}
			b, g := example(), exampleGiven()
			f.change(&b, &g)
			if x, e := c.run(b, g); e != f.e || !isNothing(x) {
				t.Error("P6.1 to P6.11:", i, c.name, x, e)
			}
		}
	}
	for _, c := range calls() {
		if x, e := c.run(example(), exampleGiven()); e != api.OK {
			t.Error("P6.1 to P6.11:", c.name, x, e)
		}
	}
}

// TestOrderOfErrors makes a book, its nodes, its history, its limits and a further comparison fail at once, and then repairs them one after the other.
func TestOrderOfErrors(t *testing.T) {
	type step struct {
		of     []string
		repair func(b *api.Book, g *given)
		e      api.Errno // what the call returns before
	}
	nothing := func(b *api.Book, g *given) {}
	steps := []step{
		{nil, func(b *api.Book, g *given) { b.Uses = b.Uses[:1] }, api.ErrTwice},
		{[]string{"Pile", "Differ"}, func(b *api.Book, g *given) { g.day = 10 }, api.ErrArg},
		{nil, func(b *api.Book, g *given) {
			g.n, g.m, g.ids, g.y = node(2, 10), node(1, 10), []int{1, 2}, []int{2}
		}, api.ErrNone},
		{nil, func(b *api.Book, g *given) { b.Compares = b.Compares[:1] }, api.ErrClash},
		{[]string{"Judge", "Witness", "Settles"}, func(b *api.Book, g *given) { g.limits = span(0, 2000) }, api.ErrArg},
		{[]string{"Worst", "Settles"}, nothing, api.ErrNone},
		{[]string{"Best"}, func(b *api.Book, g *given) { g.l = slices.Repeat([]api.Compare{{}}, api.MaxChoice+1) }, api.ErrArg},
		{[]string{"Best"}, func(b *api.Book, g *given) {
			g.l = []api.Compare{exampleGiven().c, hot(exampleGiven().c, 1, 1), {}}
			g.l[1].A, g.l[1].B = []int{1}, nil
		}, api.ErrLimit},
		{[]string{"Best"}, nothing, api.ErrNone},
	}
	for _, c := range calls() {
		b, g := contradiction(), exampleGiven()
		b.Uses = append(b.Uses, use(1, 5))
		b.Gauges[1].ID, b.Compares[0].B, b.Compares[1].B = 1, []int{1}, []int{1}
		g.day, g.n, g.m, g.ids, g.y = -1, node(3, 10), node(3, 9), []int{1, 3}, []int{3}
		g.limits, g.l = span(1, 0), nil
		g.c = hot(g.c, 1, 1)
		g.c.A, g.c.B = []int{1}, nil
		for i, s := range steps {
			if s.of != nil && !slices.Contains(s.of, c.name) {
				continue
			}
			if x, e := c.run(b, g); e != s.e || !isNothing(x) {
				t.Error("R3:", c.name, i, x, e)
			}
			s.repair(&b, &g)
			if i == 0 {
				b.Gauges, b.Compares = example().Gauges, contradiction().Compares
			}
		}
	}
}

// TestBestTellsErrorsInOrder has a comparison of which nothing can be told behind one that is invalid.
func TestBestTellsErrorsInOrder(t *testing.T) {
	good := cold(8, 10, []int{1}, []int{2}, 5, 0)
	again, none := good, hot(cold(8, 10, []int{1}, nil, 0, 0), 1, 1)
	again.ID = 7
	for i, c := range []struct {
		l []api.Compare
		e api.Errno
	}{
		{[]api.Compare{good, again, none}, api.ErrTwice},
		{[]api.Compare{good, none, again}, api.ErrNone},
		{[]api.Compare{none}, api.ErrNone},
		{slices.Repeat([]api.Compare{good}, api.MaxChoice), api.OK},
		{append(slices.Repeat([]api.Compare{good}, api.MaxChoice-1), again), api.ErrTwice},
		{append(slices.Repeat([]api.Compare{good}, api.MaxChoice), again), api.ErrLimit},
		{[]api.Compare{}, api.ErrArg},
	} {
		if best, e := sharp.Best(example(), node(2, 10), c.l); best != 0 || e != c.e {
			t.Error("P6.10: Best:", i, best, e)
		}
	}
}

// TestLooksAtLimits asks full books for nodes that they have.
func TestLooksAtLimits(t *testing.T) {
	b := filled()
	for _, n := range mustNodes(t, b) {
		if _, e := sharp.Interval(b, n); e != api.OK {
			t.Error("P6.1: Interval:", n, e)
		}
		if _, e := sharp.Between(b, n, node(2, 0)); e != api.OK {
			t.Error("P6.2: Between:", n, e)
		}
	}
	if interval, e := sharp.Interval(b, node(1, 1)); interval != span(0, 0) || e != api.ErrLimit {
		t.Error("P6.1: Interval:", interval, e)
	}
	if pile, e := sharp.Pile(b, 0, []int{1, 2, 3, 4, 5, 6}); pile != span(6*91, 6*109) || e != api.OK {
		t.Error("P6.3: Pile:", pile, e)
	}
	full := changed(example(), func(b *api.Book) { b.Looks = slices.Repeat([]api.Node{node(1, 0)}, api.MaxLooks) })
	if interval, e := sharp.Interval(full, node(2, 10)); interval != span(984, 1011) || e != api.OK {
		t.Error("P6.1: Interval:", interval, e)
	}
	nearly := changed(full, func(b *api.Book) { b.Looks = b.Looks[1:] })
	if difference, e := sharp.Between(nearly, node(2, 11), node(2, 11)); difference != span(0, 0) || e != api.OK {
		t.Error("P6.2: Between:", difference, e)
	}
}
