package chain_test

import (
	"slices"
	"testing"

	"wringing/api"
	"wringing/chain"
)

func TestSlackExamples(t *testing.T) {
	s := example()
	for i, c := range []struct {
		s     api.System
		which int
		want  int
		e     api.Errno
	}{
		{s, 3, 2, api.OK},
		{s, 2, 3, api.OK},
		{s, 0, 2, api.OK},
		{s, -1, 0, api.ErrArg},
		{s, 5, 0, api.ErrArg},
		{s, leastInt, 0, api.ErrArg},
		{s, mostInt, 0, api.ErrArg},
		{clashing(), 0, 0, api.ErrClash},
		{clashing(), 6, 0, api.ErrArg},
		{system(2), 0, 0, api.ErrArg},
		{system(2, link(0, 1, 5)), 0, 0, api.ErrNone},
		{system(2, link(0, 1, 5), link(0, 1, 5)), 0, 0, api.ErrNone},
		{system(4, link(0, 1, 5), link(2, 3, 0), link(3, 2, 0), link(1, 2, 4)), 0, 0, api.ErrNone},
		{cycle(2, 0), 0, 0, api.OK},
		{cycle(api.MaxNodes, api.MaxBound), 7, api.MaxNodes * api.MaxBound, api.OK},
	} {
		if n, e := chain.Slack(c.s, c.which); n != c.want || e != c.e {
			t.Error("P2.10: Slack:", i, n, e)
		}
	}
}

// loosen is a system with another Most of a link.
func loosen(s api.System, which, by int) api.System {
	l := slices.Clone(s.Links)
	l[which].Most += by
	return system(s.Nodes, l...)
}

func TestSlackIsGreatest(t *testing.T) {
	for _, s := range slices.Concat(smallSystems(400), largeSystems(4)) {
		if _, ok := floyd(s); !ok {
			continue
		}
		for i := 0; i < len(s.Links); i += 1 + len(s.Links)/12 {
			n, e := chain.Slack(s, i)
			if e == api.ErrNone {
				if _, ok := floyd(loosen(s, i, -api.MaxBound-s.Links[i].Most)); !ok || n != 0 {
					t.Fatal("P2.10: Slack:", s, i, n, e)
				}
				continue
			}
			_, same := floyd(loosen(s, i, -n))
			_, less := floyd(loosen(s, i, -n-1))
			if n < 0 || e != api.OK || !same || less {
				t.Fatal("P2.10: Slack:", s, i, n, e)
			}
		}
	}
}

func TestSuspectsExamples(t *testing.T) {
	for i, c := range []struct {
		s    api.System
		want []int
	}{
		{clashing(), []int{0, 5}},
		{example(), nil},
		{system(1), nil},
		{cycle(api.MaxNodes, -1), sequence(api.MaxNodes)},
		// A second link that says the same keeps the contradiction.
		{system(2, link(0, 1, 1), link(1, 0, -2), link(0, 1, 1)), []int{1}},
		{system(2, link(0, 1, 1), link(1, 0, -2), link(0, 1, 0)), []int{1}},
		{system(2, link(0, 1, 1), link(1, 0, -2), link(0, 1, 2)), []int{0, 1}},
		// Two contradictions apart from each other have no link in common.
		{system(4, link(0, 1, -1), link(1, 0, 0), link(2, 3, -1), link(3, 2, 0)), nil},
		// Two contradictions that share the link 1.
		{system(3, link(1, 0, -1), link(0, 1, 0), link(1, 2, 0), link(2, 0, -1)), []int{1}},
	} {
		if l, e := chain.Suspects(c.s); !slices.Equal(l, c.want) || e != api.OK {
			t.Error("P2.11: Suspects:", i, l, e)
		}
	}
}

func TestSuspects(t *testing.T) {
	for _, s := range slices.Concat(smallSystems(1000), largeSystems(10)) {
		var want []int
		if _, ok := floyd(s); !ok {
			for i := range s.Links {
				if _, ok := floyd(without(s, i)); ok {
					want = append(want, i)
				}
			}
		}
		if l, e := chain.Suspects(s); !slices.Equal(l, want) || e != api.OK {
			t.Fatal("P2.11: Suspects:", s, l, e)
		}
	}
}

func TestIdleReduceExamples(t *testing.T) {
	for i, c := range []struct {
		s            api.System
		idle, reduce []int
		e            api.Errno
	}{
		{example(), []int{2}, []int{0, 1, 3, 4}, api.OK},
		{clashing(), nil, nil, api.ErrClash},
		{system(1), nil, nil, api.OK},
		{system(2, link(0, 1, 5)), nil, []int{0}, api.OK},
		// Each one can go, but not both: the last one goes.
		{system(2, link(0, 1, 5), link(0, 1, 5)), []int{0, 1}, []int{0}, api.OK},
		{system(2, link(0, 1, 6), link(0, 1, 5), link(0, 1, 5)), []int{0, 1, 2}, []int{1}, api.OK},
		{system(3, link(0, 1, 1), link(1, 2, 1), link(0, 2, 2)), []int{2}, []int{0, 1}, api.OK},
		// All values are equal: a cycle of three links is enough, and the last ones are left out first.
		{system(3, link(0, 1, 0), link(1, 2, 0), link(2, 0, 0), link(1, 0, 0), link(2, 1, 0), link(0, 2, 0)), []int{0, 1, 2, 3, 4, 5}, []int{0, 1, 2}, api.OK},
		{system(3, link(1, 0, 0), link(2, 1, 0), link(0, 1, 0), link(1, 2, 0)), nil, []int{0, 1, 2, 3}, api.OK},
	} {
		if l, e := chain.Idle(c.s); !slices.Equal(l, c.idle) || e != c.e {
			t.Error("P2.12: Idle:", i, l, e)
		}
		if l, e := chain.Reduce(c.s); !slices.Equal(l, c.reduce) || e != c.e {
			t.Error("P2.12: Reduce:", i, l, e)
		}
	}
}

// reduced returns what Reduce has to return, by comparing all bounds again and again.
func reduced(s api.System, want [][]int) []int {
	var left []int
	rest := s
	for i := len(s.Links) - 1; i >= 0; i-- {
		less := without(rest, i)
		if d, _ := floyd(less); sameTable(d, want) {
			rest = less
		} else {
			left = append(left, i)
		}
	}
	slices.Reverse(left)
	return left
}

func TestIdleReduce(t *testing.T) {
	for _, s := range slices.Concat(smallSystems(700), largeSystems(3)) {
		want, ok := floyd(s)
		if !ok {
			continue
		}
		var idle []int
		for i := range s.Links {
			if d, _ := floyd(without(s, i)); sameTable(d, want) {
				idle = append(idle, i)
			}
		}
		if l, e := chain.Idle(s); !slices.Equal(l, idle) || e != api.OK {
			t.Fatal("P2.12: Idle:", s, l, e)
		}
		if l, e := chain.Reduce(s); !slices.Equal(l, reduced(s, want)) || e != api.OK {
			t.Fatal("P2.12: Reduce:", s, l, e)
		}
	}
}
