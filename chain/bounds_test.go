package chain_test

import (
	"slices"
	"testing"

	"wringing/api"
	"wringing/chain"
)

func TestBoundExamples(t *testing.T) {
	s := example()
	for i, c := range []struct {
		s        api.System
		from, to int
		want     int
		e        api.Errno
	}{
		{s, 0, 2, 8, api.OK},
		{s, 2, 0, -6, api.OK},
		{s, 1, 0, -3, api.OK},
		{s, 0, 3, 0, api.ErrNone},
		{s, 3, 0, 0, api.ErrNone},
		{s, 3, 3, 0, api.OK},
		{s, 2, 1, -2, api.OK},
		{s, -1, 0, 0, api.ErrArg},
		{s, 0, 4, 0, api.ErrArg},
		{s, leastInt, 0, 0, api.ErrArg},
		{s, 0, mostInt, 0, api.ErrArg},
		{clashing(), 0, 2, 0, api.ErrClash},
		{clashing(), 3, 3, 0, api.ErrClash}, // no chain of the node 3 has the contradiction
		{clashing(), 0, 4, 0, api.ErrArg},
		{system(1), 0, 0, 0, api.OK},
		{cycle(api.MaxNodes, api.MaxBound), 1, 0, 59 * api.MaxBound, api.OK},
		{without(cycle(api.MaxNodes, -api.MaxBound), 0), 1, 0, -59 * api.MaxBound, api.OK},
		{without(cycle(api.MaxNodes, -api.MaxBound), 0), 0, 1, 0, api.ErrNone},
	} {
		if n, e := chain.Bound(c.s, c.from, c.to); n != c.want || e != c.e {
			t.Error("P2.5: Bound:", i, n, e)
		}
	}
}

// TestErrorsOfBounds holds all functions of the section but CheckChain to their common errors, and their order.
func TestErrorsOfBounds(t *testing.T) {
	twoNodes := []string{"Bound", "Chain", "Reach"}
	section := slices.Concat(twoNodes, []string{"Tight", "Spans", "Greatest", "Least"})
	for _, ends := range [][2]int{{0, 2}, {-1, 2}, {0, 4}, {4, -1}, {leastInt, mostInt}} {
		valid := ends == [2]int{0, 2}
		for _, f := range calls(ends[0], ends[1], nil, nil) {
			if !slices.Contains(section, f.name) {
				continue
			}
			want := api.ErrClash
			if !valid && slices.Contains(twoNodes, f.name) {
				want = api.ErrArg
				if x, e := f.run(example()); e != want || !isNothing(x) {
					t.Error("P2.5 to P2.9:", f.name, ends, x, e)
				}
			}
			if x, e := f.run(clashing()); e != want || !isNothing(x) {
				t.Error("P2.5 to P2.9:", f.name, ends, x, e)
			}
		}
	}
}

func TestBoundsOfAllNodes(t *testing.T) {
	for _, s := range slices.Concat(smallSystems(600), largeSystems(20)) {
		want, ok := floyd(s)
		if !ok {
			continue
		}
		if d, e := chain.Tight(s); !sameTable(d, want) || e != api.OK {
			t.Fatal("P2.7: Tight:", s, d, e)
		}
		spans, e := chain.Spans(s)
		if len(spans) != s.Nodes || e != api.OK {
			t.Fatal("P2.7: Spans:", s, spans, e)
		}
		for to := range want {
			if spans[to] != (api.Span{Lo: -want[to][0], Hi: want[0][to]}) {
				t.Fatal("P2.7: Spans:", s, to, spans[to])
			}
			for from := range want {
				n, e := chain.Bound(s, from, to)
				if want[from][to] == api.Free && (n != 0 || e != api.ErrNone) || want[from][to] != api.Free && (n != want[from][to] || e != api.OK) {
					t.Fatal("P2.5: Bound:", s, from, to, n, e)
				}
			}
		}
	}
}

func TestSpansExample(t *testing.T) {
	spans, e := chain.Spans(example())
	if !slices.Equal(spans, []api.Span{{}, {Lo: 3, Hi: 5}, {Lo: 6, Hi: 8}, {Lo: -api.Free, Hi: api.Free}}) || e != api.OK {
		t.Error("P2.7: Spans:", spans, e)
	}
	spans, e = chain.Spans(system(3, link(0, 1, 4), link(2, 0, 7)))
	if !slices.Equal(spans, []api.Span{{}, {Lo: -api.Free, Hi: 4}, {Lo: -7, Hi: api.Free}}) || e != api.OK {
		t.Error("P2.7: Spans of one side:", spans, e)
	}
	d, e := chain.Tight(system(2, link(0, 1, 4)))
	if !sameTable(d, [][]int{{0, 4}, {api.Free, 0}}) || e != api.OK {
		t.Error("P2.7: Tight:", d, e)
	}
}

func TestGreatestLeastExamples(t *testing.T) {
	three := system(3, example().Links...)
	for i, c := range []struct {
		f    func(api.System) ([]int, api.Errno)
		s    api.System
		want []int
		e    api.Errno
	}{
		{chain.Greatest, three, []int{0, 5, 8}, api.OK},
		{chain.Least, three, []int{0, 3, 6}, api.OK},
		{chain.Greatest, example(), nil, api.ErrNone},
		{chain.Least, example(), nil, api.ErrNone},
		{chain.Greatest, system(1), []int{0}, api.OK},
		{chain.Least, system(1), []int{0}, api.OK},
		{chain.Greatest, system(2, link(0, 1, -7)), []int{0, -7}, api.OK},
		{chain.Least, system(2, link(0, 1, -7)), nil, api.ErrNone},
		{chain.Greatest, system(2, link(1, 0, -7)), nil, api.ErrNone},
		{chain.Least, system(2, link(1, 0, -7)), []int{0, 7}, api.OK},
	} {
		if x, e := c.f(c.s); !slices.Equal(x, c.want) || e != c.e {
			t.Error("P2.8:", i, x, e)
		}
	}
}

func TestGreatestLeast(t *testing.T) {
	for _, s := range slices.Concat(smallSystems(600), largeSystems(30)) {
		d, ok := floyd(s)
		if !ok {
			continue
		}
		upper, lower := make([]int, s.Nodes), make([]int, s.Nodes)
		for node := range d {
			upper[node], lower[node] = d[0][node], -d[node][0]
		}
		for i, f := range []func(api.System) ([]int, api.Errno){chain.Greatest, chain.Least} {
			want := [][]int{upper, lower}[i]
			x, e := f(s)
			if slices.Contains(want, api.Free) || slices.Contains(want, -api.Free) {
				if len(x) != 0 || e != api.ErrNone {
					t.Fatal("P2.8:", i, s, x, e)
				}
			} else if !slices.Equal(x, want) || e != api.OK {
				t.Fatal("P2.8:", i, s, x, e)
			}
		}
	}
}

func checkReach(t *testing.T, s api.System, from, to, bound int) {
	t.Helper()
	x, e := chain.Reach(s, from, to)
	if bound == api.Free {
		if len(x) != 0 || e != api.ErrNone {
			t.Fatal("P2.9: Reach:", s, from, to, x, e)
		}
		return
	}
	if e != api.OK || len(x) != s.Nodes || !solves(s, x) || x[to]-x[from] != bound {
		t.Fatal("P2.9: Reach:", s, from, to, x, e)
	}
	if ok, e := chain.Fits(s, x); !ok || e != api.OK {
		t.Fatal("P2.9: Reach: values that are too great:", s, from, to, x, e)
	}
}

func TestReach(t *testing.T) {
	extremes := []api.System{
		cycle(api.MaxNodes, api.MaxBound), cycle(api.MaxNodes, 0),
		without(cycle(api.MaxNodes, api.MaxBound), 59), without(cycle(api.MaxNodes, -api.MaxBound), 59),
		without(cycle(api.MaxNodes, api.MaxBound), 30), without(cycle(api.MaxNodes, -api.MaxBound), 30),
	}
	for i, s := range slices.Concat(extremes, smallSystems(400), largeSystems(8)) {
		d, ok := floyd(s)
		if !ok {
			continue
		}
		for from := range d {
			for to := range d {
				if i < len(extremes)+800 || (from+to)%7 == 0 {
					checkReach(t, s, from, to, d[from][to])
				}
			}
		}
	}
}
