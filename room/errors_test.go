package room_test

import (
	"slices"
	"testing"

	"wringing/api"
)

// exampleGiven are arguments for which all functions but Blame have a result.
func exampleGiven() given {
	return given{
		l: example(), other: example(), known: 5, label: 2, day: 15, limits: span(1000, 1200), n: name(1, 6),
		plan: []api.Compare{alone(15, 2, 0), alone(9, 1, 1)},
	}
}

// faults are all that can be wrong, in the order in which it is told. A fault is told by all functions, or by some.
func faults() []struct {
	of     []string
	change func(g *given)
	e      api.Errno
} {
	ofTold := []string{"Told", "Judge", "Settle"}
	settle := []string{"Settle"}
	return []struct {
		of     []string
		change func(g *given)
		e      api.Errno
	}{
		{nil, func(g *given) { g.l = many(api.MaxFacts + 1) }, api.ErrLimit},
		{nil, func(g *given) { g.l = slices.Insert(g.l, 0, fact(9, 9, 9, use(1, 1))) }, api.ErrArg},
		{nil, func(g *given) { g.l = append(g.l, fact(1, 1, 9, use(1, 1))) }, api.ErrClash},
		{[]string{"Quarrel"}, func(g *given) { g.other = many(api.MaxFacts + 1) }, api.ErrLimit},
		{[]string{"Quarrel"}, func(g *given) { g.other = slices.Insert(g.other, 0, fact(9, 9, 9, use(1, 1))) }, api.ErrArg},
		{[]string{"Quarrel"}, func(g *given) { g.other = append(g.other, fact(1, 1, 9, use(1, 1))) }, api.ErrClash},
		{nil, func(g *given) { g.known = -1 }, api.ErrArg},
		{nil, func(g *given) { g.known = api.MaxKnown + 1 }, api.ErrArg},
		{[]string{"Rests"}, func(g *given) { g.n = name(2, 1) }, api.ErrNone}, // It becomes known later.
		{[]string{"Rests"}, func(g *given) { g.n = name(5, 1) }, api.ErrNone},
		{append(ofTold, "Gather", "Blame"), func(g *given) { g.l = append(g.l, fact(6, 1, 0, use(9, 1))) }, api.ErrNone},
		{append(ofTold, "Gather", "Blame"), func(g *given) { g.l = append(g.l, fact(6, 2, 0, loan(1, 10, 10, 1))) }, api.ErrClash},
		{append(ofTold, "Gather", "Blame"), func(g *given) { g.l = append(g.l, fact(6, 3, 0, cold(1, nil, nil, 0, 0))) }, api.ErrArg},
		{append(ofTold, "Quarrel"), func(g *given) { g.day = -1 }, api.ErrArg},
		{append(ofTold, "Quarrel"), func(g *given) { g.day = api.MaxDay + 1 }, api.ErrArg},
		{ofTold, func(g *given) { g.label = 4 }, api.ErrNone},
		{ofTold, func(g *given) { g.known = 12 }, api.ErrNone}, // No way explains the case.
		{ofTold, func(g *given) {
			late := gauge(2, 1000, -50, 50)
			late.Made, g.day = 10, 9
			g.l = append(g.l, fact(6, 4, 5, late))
		}, api.ErrState},
		{[]string{"Judge", "Settle"}, func(g *given) { g.limits = span(1, 0) }, api.ErrArg},
		{settle, func(g *given) { g.plan = make([]api.Compare, api.MaxPlan+1) }, api.ErrLimit},
		{settle, func(g *given) { g.plan[1].ID = 1 }, api.ErrArg},
		{settle, func(g *given) { g.plan[1].ID = -1 }, api.ErrArg},
		{settle, func(g *given) { g.plan[1].A = []int{1, 3} }, api.ErrArg},
		{settle, func(g *given) { g.plan[1].A = []int{4} }, api.ErrArg},
		{settle, func(g *given) { g.plan[1].Error = -1 }, api.ErrArg},
		{settle, func(g *given) { g.plan[1].Heat = span(5, 5); g.plan[1].Error = 0 }, api.ErrArg}, // It shows no integer.
		{settle, func(g *given) { g.plan[0].Error = 16; g.plan[0].Day = 9 }, api.ErrLimit},
		{settle, func(g *given) { g.plan[0] = alone(9, 1, 1) }, api.ErrLimit}, // 13 times 13
		{settle, func(g *given) { g.plan = []api.Compare{alone(9, 1, 20)} }, api.ErrNone},
	}
}

func TestErrors(t *testing.T) {
	for i, f := range faults() {
		g := exampleGiven()
		f.change(&g)
		for _, c := range calls() {
			x, e := c.run(g)
			if e != api.OK && !isNothing(x) {
				t.Error("R4:", c.name, i, x, e)
			}
			want := api.OK
			if f.of == nil || slices.Contains(f.of, c.name) {
				want = f.e
			} else if c.name == "Blame" {
				want = e // TestExampleOfTold has its other errors.
			}
			if e != want {
				t.Error("P8.3 to P8.8: errors:", c.name, i, e, want)
			}
		}
	}
}

// TestOrderOfErrors lets more and more be wrong, from what is told last on: what is wrong now is told ahead of all that was wrong before.
func TestOrderOfErrors(t *testing.T) {
	for _, c := range calls() {
		all := faults()
		for last := range all {
			g := exampleGiven()
			for i := last; i >= 0; i-- {
				f := all[i]
				if f.of != nil && !slices.Contains(f.of, c.name) {
					continue
				}
				if len(g.plan) == 1 {
					g.plan = append(g.plan, exampleGiven().plan[1]) // so that it can be changed
				}
				f.change(&g)
				if x, e := c.run(g); e != f.e || !isNothing(x) {
					t.Error("R3:", c.name, i, last, e, f.e)
				}
			}
		}
	}
}
