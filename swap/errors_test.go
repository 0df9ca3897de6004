package swap_test

import (
	"slices"
	"testing"

	"wringing/api"
	"wringing/swap"
)

// exampleGiven are arguments for which all functions that can have a result with the case of the chapter have one.
func exampleGiven() given {
	return given{
		way: [][]int{{3, 2}}, label: 2, gauge: 3, day: 15, ids: []int{7},
		lengths: []int{1000, 1000, 990, 990, 1100}, x: mix(13, 1, 2),
	}
}

// mustFail are the errors of functions that have no result with the case of the chapter, as it is explained.
func mustFail() map[string]api.Errno {
	return map[string]api.Errno{"Core": api.ErrNone, "Shortest": api.ErrNone, "Prove": api.ErrNone, "CheckProof": api.ErrProof}
}

func TestErrors(t *testing.T) {
	ofWay := []string{"Weight", "Who", "Label", "Translate", "Explains", "CheckWay"}
	ofDay := []string{"Who", "Label", "Coulds"}
	ofLabel := []string{"Who", "Coulds", "Withdrawn"}
	ofGauge := []string{"Label"}
	for i, f := range []struct {
		of     []string // nil: all
		change func(m *api.Mixed, g *given)
		e      api.Errno
	}{
		{nil, func(m *api.Mixed, g *given) { m.Book.Film = span(3, 2) }, api.ErrArg},
		{nil, func(m *api.Mixed, g *given) { m.Book.Gauges[1].ID = 1 }, api.ErrTwice},
		{nil, func(m *api.Mixed, g *given) { m.Book.Looks = slices.Repeat([]api.Node{node(1, 0)}, api.MaxLooks+1) }, api.ErrLimit},
		{nil, func(m *api.Mixed, g *given) { m.Mixes[0].Day = -1 }, api.ErrArg},
		{nil, func(m *api.Mixed, g *given) { m.Mixes[0].Labels[0] = -2 }, api.ErrNone},
		{nil, func(m *api.Mixed, g *given) { m.Book.Gauges[2].Made = 14 }, api.ErrState},
		{nil, func(m *api.Mixed, g *given) { m.Mixes = append(m.Mixes, mix(12, 1, 2)) }, api.ErrTwice},
		{nil, func(m *api.Mixed, g *given) { m.Mixes[0] = mix(25, 1, 2) }, api.ErrClash},
		{nil, func(m *api.Mixed, g *given) {
			*m = box(5, mix(1, 1, 2, 3, 4, 5), mix(2, 1, 2))
			g.way, g.day, g.label, g.gauge = nil, -1, 9, 9
		}, api.ErrLimit},
		{ofWay, func(m *api.Mixed, g *given) { g.way = nil }, api.ErrArg},
		{ofWay, func(m *api.Mixed, g *given) { g.way = [][]int{{3, 3}} }, api.ErrArg},
		{ofWay, func(m *api.Mixed, g *given) { g.way = [][]int{{3, 2}, {}} }, api.ErrArg},
		{ofWay, func(m *api.Mixed, g *given) { g.way, g.day, g.label, g.gauge, g.lengths = nil, -1, 9, 9, nil }, api.ErrArg},
		{ofDay, func(m *api.Mixed, g *given) { g.day = -1 }, api.ErrArg},
		{ofDay, func(m *api.Mixed, g *given) { g.day = api.MaxDay + 1 }, api.ErrArg},
		{ofDay, func(m *api.Mixed, g *given) { g.day, g.label, g.gauge = mostInt, 9, 9 }, api.ErrArg},
		{ofLabel, func(m *api.Mixed, g *given) { g.label = 4 }, api.ErrNone},
		{ofLabel, func(m *api.Mixed, g *given) { g.label = 0 }, api.ErrNone},
		{ofLabel, func(m *api.Mixed, g *given) { g.label = leastInt }, api.ErrNone},
		{ofGauge, func(m *api.Mixed, g *given) { g.gauge = 4 }, api.ErrNone},
		{ofGauge, func(m *api.Mixed, g *given) { g.gauge = mostInt }, api.ErrNone},
	} {
		for _, c := range calls() {
			if f.of != nil && !slices.Contains(f.of, c.name) {
				continue
			}
			m, g := cloned(example()), exampleGiven()
			f.change(&m, &g)
			if x, e := c.run(m, g); e != f.e || !isNothing(x) {
				t.Error("P7.1 to P7.10:", i, c.name, x, e)
			}
		}
	}
	for _, c := range calls() {
		if x, e := c.run(example(), exampleGiven()); e != mustFail()[c.name] || e != api.OK && !isNothing(x) {
			t.Error("P7.1 to P7.10:", c.name, x, e)
		}
	}
}

// TestUnaskedArguments gives calls arguments that are not valid for others.
func TestUnaskedArguments(t *testing.T) {
	wrong := given{way: [][]int{{9}}, label: -1, gauge: -1, day: -1, ids: nil, lengths: []int{leastInt}, x: mix(13, 1, 2)}
	for _, c := range calls() {
		if slices.Contains([]string{"Ways", "All", "Least", "Sure", "Explained", "Print", "With"}, c.name) {
			if _, e := c.run(example(), wrong); e != api.OK {
				t.Error("P7.2 to P7.10:", c.name, e)
			}
		}
	}
	// The last day has no node, and the gauge is not made on the first one.
	late := changed(example(), func(m *api.Mixed) { m.Book.Gauges[0].Made = 10 })
	for _, day := range []int{0, api.MaxDay} {
		if gauge, e := swap.Who(late, [][]int{{3, 2}}, 1, day); gauge != 1 || e != api.OK {
			t.Error("P7.3: Who:", gauge, e)
		}
		if label, e := swap.Label(late, [][]int{{3, 2}}, 1, day); label != 1 || e != api.OK {
			t.Error("P7.3: Label:", label, e)
		}
	}
}
