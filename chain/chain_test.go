package chain_test

import (
	"slices"
	"testing"

	"wringing/api"
	"wringing/chain"
)

func TestCheck(t *testing.T) {
	for i, c := range badSystems() {
		if e, at := chain.Check(c.s); e != c.e || at != c.at {
			t.Error("P2.1: Check:", i, e, at)
		}
	}
	full := slices.Repeat([]api.Link{link(1, 0, -api.MaxBound), link(0, 1, api.MaxBound)}, api.MaxLinks/2)
	for i, s := range []api.System{
		system(1), system(api.MaxNodes), system(2, full...), example(), clashing(),
		{Nodes: 2, Links: []api.Link{}},
		system(api.MaxNodes, link(0, api.MaxNodes-1, 0), link(api.MaxNodes-1, 0, 0)),
	} {
		if e, at := chain.Check(s); e != api.OK || at != -1 {
			t.Error("P2.1: Check:", i, e, at)
		}
	}
}

func TestErrorOfCheckComesFirst(t *testing.T) {
	tooLong := make([]int, api.MaxFits+1)
	for i, c := range badSystems() {
		for _, f := range slices.Concat(calls(0, 1, nil, nil), calls(-1, 99, tooLong, []api.Link{{}})) {
			if x, e := f.run(c.s); e != c.e || !isNothing(x) {
				t.Error("P2.1:", f.name, i, x, e)
			}
		}
	}
}

func TestConsistent(t *testing.T) {
	for i, c := range []struct {
		s    api.System
		want bool
	}{
		{example(), true},
		{clashing(), false},
		{system(1), true},
		{system(api.MaxNodes), true},
		{cycle(2, 0), true},
		{system(2, link(0, 1, 0), link(1, 0, -1)), false},
		{system(2, link(0, 1, api.MaxBound), link(1, 0, -api.MaxBound)), true},
		{system(2, link(0, 1, api.MaxBound-1), link(1, 0, -api.MaxBound)), false},
		{system(3, link(1, 2, 0), link(2, 1, -1)), false}, // away from the node 0
		{system(4, link(0, 1, -9), link(2, 3, 4), link(3, 2, -4)), true},
		{cycle(api.MaxNodes, 0), true},
		{cycle(api.MaxNodes, -1), false},
		{cycle(api.MaxNodes, -api.MaxBound), false},
		{cycle(api.MaxNodes, api.MaxBound), true},
	} {
		if ok, e := chain.Consistent(c.s); ok != c.want || e != api.OK {
			t.Error("P2.2: Consistent:", i, ok, e)
		}
	}
	for _, s := range slices.Concat(smallSystems(2000), largeSystems(60)) {
		if _, want := floyd(s); isConsistent(t, s) != want {
			t.Fatal("P2.2: Consistent:", s, !want)
		}
	}
}

func TestFits(t *testing.T) {
	s := example()
	for i, c := range []struct {
		s    api.System
		x    []int
		want bool
		e    api.Errno
	}{
		{s, []int{0, 5, 8, 0}, true, api.OK},
		{s, []int{0, 3, 6, -17}, true, api.OK},
		{s, []int{0, 4, 6, api.Free}, true, api.OK},
		{s, []int{0, 4, 6, -api.Free}, true, api.OK},
		{s, []int{0, 5, 9, 0}, false, api.OK},
		{s, []int{0, 6, 8, 0}, false, api.OK},
		{s, []int{0, 2, 5, 0}, false, api.OK},
		{s, []int{1, 6, 9, 1}, false, api.OK}, // all differences fit, but the first value is not 0
		{s, []int{-1, 4, 7, 0}, false, api.OK},
		{s, []int{0, 5, 8}, false, api.ErrArg},
		{s, []int{0, 5, 8, 0, 0}, false, api.ErrArg},
		{s, nil, false, api.ErrArg},
		{s, []int{0, 4, 6, api.Free + 1}, false, api.ErrArg},
		{s, []int{0, 4, 6, -api.Free - 1}, false, api.ErrArg},
		{s, []int{mostInt, 4, 6, 0}, false, api.ErrArg},
		{s, []int{1, 4, leastInt, 0}, false, api.ErrArg},
		{clashing(), []int{0, 5, 8, 0}, false, api.OK},
		{system(1), []int{0}, true, api.OK},
		{system(1), []int{3}, false, api.OK},
		{system(2, link(1, 0, -api.MaxBound)), []int{0, api.Free}, true, api.OK},
		{system(2, link(1, 0, api.MaxBound)), []int{0, -api.Free}, false, api.OK},
	} {
		if ok, e := chain.Fits(c.s, c.x); ok != c.want || e != c.e {
			t.Error("P2.4: Fits:", i, ok, e)
		}
	}
}

func TestFitsByDefinition(t *testing.T) {
	for _, s := range smallSystems(60) {
		boxed(s.Nodes, 3, func(x []int) {
			if ok, e := chain.Fits(s, x); ok != solves(s, x) || e != api.OK {
				t.Fatal("P2.4: Fits:", s, x, ok, e)
			}
		})
	}
}

func TestWith(t *testing.T) {
	s := example()
	full := system(2, slices.Repeat([]api.Link{link(0, 1, 1)}, api.MaxLinks)...)
	for i, c := range []struct {
		s    api.System
		l    []api.Link
		want api.System
		e    api.Errno
	}{
		{s, []api.Link{link(1, 0, -6)}, clashing(), api.OK},
		{s, nil, s, api.OK},
		{system(2), []api.Link{link(0, 1, 2), link(0, 1, 2)}, system(2, link(0, 1, 2), link(0, 1, 2)), api.OK},
		{system(2), full.Links, full, api.OK},
		{full, nil, full, api.OK},
		{full, []api.Link{link(1, 0, 0)}, api.System{}, api.ErrLimit},
		{full, []api.Link{link(1, 1, 0)}, api.System{}, api.ErrLimit},
		{s, make([]api.Link, api.MaxLinks), api.System{}, api.ErrLimit},
		{s, []api.Link{link(1, 0, 0), link(1, 4, 0)}, api.System{}, api.ErrArg},
		{s, []api.Link{{}}, api.System{}, api.ErrArg},
		{s, []api.Link{link(0, 1, api.MaxBound+1)}, api.System{}, api.ErrArg},
	} {
		if got, e := chain.With(c.s, c.l); !same(got, c.want) || e != c.e {
			t.Error("P2.13: With:", i, got, e)
		}
	}
}

func TestWithout(t *testing.T) {
	s := example()
	l := s.Links
	for i, c := range []struct {
		which []int
		want  api.System
	}{
		{nil, s},
		{[]int{0}, system(4, l[1:]...)},
		{[]int{4, 1, 4, 1, 4}, system(4, l[0], l[2], l[3])},
		{[]int{-1, 5, leastInt, mostInt}, s},
		{[]int{-1, 2, 5}, system(4, l[0], l[1], l[3], l[4])},
		{[]int{0, 1, 2, 3, 4}, system(4)},
		{slices.Repeat([]int{3}, 500), system(4, l[0], l[1], l[2], l[4])},
	} {
		if got, e := chain.Without(s, c.which); !same(got, c.want) || e != api.OK {
			t.Error("P2.13: Without:", i, got, e)
		}
	}
	if got, e := chain.Without(clashing(), []int{5}); !same(got, s) || e != api.OK {
		t.Error("P2.13: Without:", got, e)
	}
}
