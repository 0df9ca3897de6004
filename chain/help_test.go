package chain_test

import (
	"math/rand"
	"reflect"
	"slices"
	"testing"

	"wringing/api"
	"wringing/chain"
)

const (
	leastInt = -1 << 63
	mostInt  = 1<<63 - 1
)

func link(from, to, most int) api.Link { return api.Link{From: from, To: to, Most: most} }

func system(nodes int, l ...api.Link) api.System { return api.System{Nodes: nodes, Links: l} }

// example is the system s of the chapter.
func example() api.System {
	return system(4, link(0, 1, 5), link(1, 2, 3), link(0, 2, 9), link(2, 0, -6), link(2, 1, -2))
}

// clashing is the system s with the link 5.
func clashing() api.System {
	s := example()
	return system(4, append(s.Links, link(1, 0, -6))...)
}

// cycle is a closed chain through all nodes, each link of which has the same Most.
func cycle(nodes, most int) api.System {
	s := system(nodes)
	for node := range nodes {
		s.Links = append(s.Links, link(node, (node+1)%nodes, most))
	}
	return s
}

// badSystems are systems that are not valid, with what Check returns for them.
func badSystems() []struct {
	s  api.System
	e  api.Errno
	at int
} {
	long := slices.Repeat([]api.Link{link(0, 1, 1)}, api.MaxLinks+1)
	longBad := slices.Concat(long, []api.Link{link(0, 0, 0)})
	longBad[3] = link(7, 7, 7)
	good := link(1, 2, 3)
	return []struct {
		s  api.System
		e  api.Errno
		at int
	}{
		{api.System{}, api.ErrArg, -1},
		{system(-1), api.ErrArg, -1},
		{system(leastInt), api.ErrArg, -1},
		{system(mostInt), api.ErrArg, -1},
		{system(api.MaxNodes + 1), api.ErrArg, -1},
		{system(0, good), api.ErrArg, -1},
		{system(api.MaxNodes+1, long...), api.ErrArg, -1},
		{system(0, longBad...), api.ErrArg, -1},
		{system(2, long...), api.ErrLimit, -1},
		{system(2, longBad...), api.ErrLimit, -1},
		{system(1, link(0, 0, 0)), api.ErrArg, 0},
		{system(3, good, good, link(2, 2, 0), link(5, 5, 5)), api.ErrArg, 2},
		{system(3, link(-1, 2, 0), good), api.ErrArg, 0},
		{system(3, good, link(1, -1, 0)), api.ErrArg, 1},
		{system(3, good, link(3, 1, 0)), api.ErrArg, 1},
		{system(3, good, link(1, 3, 0)), api.ErrArg, 1},
		{system(3, good, link(leastInt, 1, 0)), api.ErrArg, 1},
		{system(3, good, link(0, mostInt, 0)), api.ErrArg, 1},
		{system(3, good, link(0, 1, api.MaxBound+1), good), api.ErrArg, 1},
		{system(3, good, link(0, 1, -api.MaxBound-1), good), api.ErrArg, 1},
		{system(3, good, link(0, 1, mostInt)), api.ErrArg, 1},
		{system(3, good, good, link(0, 1, leastInt)), api.ErrArg, 2},
		{system(2, append(slices.Clone(long[:api.MaxLinks-1]), link(0, 2, 1))...), api.ErrArg, api.MaxLinks - 1},
	}
}

// randomSystem is a system that may be consistent or not.
func randomSystem(r *rand.Rand, nodes, links, most int) api.System {
	s := system(nodes)
	for nodes > 1 && len(s.Links) < links {
		from, to := r.Intn(nodes), r.Intn(nodes)
		if from != to {
			s.Links = append(s.Links, link(from, to, r.Intn(2*most+1)-most))
		}
	}
	return s
}

// soundSystem is a consistent system: it has a solution with values up to most, from which each link is at most loose away.
func soundSystem(r *rand.Rand, nodes, links, most, loose int) api.System {
	x := make([]int, nodes)
	for i := range x[1:] {
		x[i+1] = r.Intn(2*most+1) - most
	}
	s := randomSystem(r, nodes, links, 1)
	for i, l := range s.Links {
		s.Links[i].Most = x[l.To] - x[l.From] + r.Intn(loose+1)
	}
	return s
}

// smallSystems are always the same systems, small enough to try all chains.
func smallSystems(count int) []api.System {
	r := rand.New(rand.NewSource(2))
	l := []api.System{system(1), system(2), system(4), example(), clashing()}
	for range count {
		nodes := 1 + r.Intn(4)
		l = append(l, randomSystem(r, nodes, r.Intn(8), 1+r.Intn(4)))
		l = append(l, soundSystem(r, nodes, r.Intn(8), 3, r.Intn(4)))
	}
	return l
}

// largeSystems are always the same systems, of all sizes up to the limits, consistent or not.
func largeSystems(count int) []api.System {
	r := rand.New(rand.NewSource(3))
	var l []api.System
	for range count {
		nodes := 2 + r.Intn(api.MaxNodes-1)
		links := r.Intn(api.MaxLinks + 1)
		most := 1 << r.Intn(51)
		l = append(l, soundSystem(r, nodes, links, most, r.Intn(most)+1), soundSystem(r, nodes, links, 3, 2))
		s := soundSystem(r, nodes, links, most, most)
		for range min(len(s.Links), 3) {
			s.Links[r.Intn(len(s.Links))].Most -= r.Intn(2 * most)
		}
		l = append(l, s)
	}
	return l
}

// floyd returns all bounds of a system, or false if it is not consistent, in another way than the package.
func floyd(s api.System) ([][]int, bool) {
	d := make([][]int, s.Nodes)
	for i := range d {
		d[i] = slices.Repeat([]int{api.Free}, s.Nodes)
		d[i][i] = 0
	}
	for _, l := range s.Links {
		d[l.From][l.To] = min(d[l.From][l.To], l.Most)
	}
	for k := range d {
		for i := range d {
			for j := range d {
				if d[i][k] != api.Free && d[k][j] != api.Free {
					d[i][j] = min(d[i][j], d[i][k]+d[k][j])
				}
			}
		}
		for i := range d {
			if d[i][i] < 0 {
				return nil, false
			}
		}
	}
	return d, true
}

// sumOf returns the sum of a chain that begins and ends at certain nodes.
func sumOf(s api.System, from, to int, l []int) (int, bool) {
	sum := 0
	for _, i := range l {
		if i < 0 || i >= len(s.Links) || s.Links[i].From != from {
			return 0, false
		}
		from, sum = s.Links[i].To, sum+s.Links[i].Most
	}
	return sum, from == to
}

// closedBelow reports whether a list is a closed chain below 0.
func closedBelow(s api.System, l []int) bool {
	if len(l) == 0 || l[0] < 0 || l[0] >= len(s.Links) {
		return false
	}
	start := s.Links[l[0]].From
	sum, ok := sumOf(s, start, start, l)
	return ok && sum < 0
}

// firstList returns the first list of up to most indices, the shorter ones first, that is found good, out of all lists in which each link begins where the one before ends. It tries all of them.
func firstList(s api.System, most int, good func(l []int) bool) ([]int, bool) {
	var l []int
	var try func(left int) bool
	try = func(left int) bool {
		if left == 0 {
			return good(l)
		}
		for i, next := range s.Links {
			if len(l) > 0 && s.Links[l[len(l)-1]].To != next.From {
				continue
			}
			l = append(l, i)
			if try(left - 1) {
				return true
			}
			l = l[:len(l)-1]
		}
		return false
	}
	for n := range most + 1 {
		l = nil
		if try(n) {
			return l, true
		}
	}
	return nil, false
}

// without is a system without one link, by index.
func without(s api.System, which int) api.System {
	return system(s.Nodes, slices.Delete(slices.Clone(s.Links), which, which+1)...)
}

// boxed calls a function with each list of a system's values that has 0 first and the others from -most to most.
func boxed(nodes, most int, visit func(x []int)) {
	x := make([]int, nodes)
	var fill func(at int)
	fill = func(at int) {
		if at == nodes {
			visit(x)
			return
		}
		for x[at] = -most; x[at] <= most; x[at]++ {
			fill(at + 1)
		}
	}
	fill(1)
}

// solves reports whether a list is a solution, by the definition.
func solves(s api.System, x []int) bool {
	for _, l := range s.Links {
		if x[l.To]-x[l.From] > l.Most {
			return false
		}
	}
	return x[0] == 0
}

// call is a function of the package with a system, with its other arguments.
type call struct {
	name string
	run  func(s api.System) (any, api.Errno)
}

// calls are all functions with a system but Check. Their other arguments are taken as they are, valid or not.
func calls(from, to int, l []int, further []api.Link) []call {
	return []call{
		{"Consistent", func(s api.System) (any, api.Errno) { return pair(chain.Consistent(s)) }},
		{"Clash", func(s api.System) (any, api.Errno) { return pair(chain.Clash(s)) }},
		{"CheckClash", func(s api.System) (any, api.Errno) { return nil, chain.CheckClash(s, l) }},
		{"Bound", func(s api.System) (any, api.Errno) { return pair(chain.Bound(s, from, to)) }},
		{"Chain", func(s api.System) (any, api.Errno) { return pair(chain.Chain(s, from, to)) }},
		{"CheckChain", func(s api.System) (any, api.Errno) { return pair(chain.CheckChain(s, from, to, l)) }},
		{"Tight", func(s api.System) (any, api.Errno) { return pair(chain.Tight(s)) }},
		{"Spans", func(s api.System) (any, api.Errno) { return pair(chain.Spans(s)) }},
		{"Fits", func(s api.System) (any, api.Errno) { return pair(chain.Fits(s, l)) }},
		{"Greatest", func(s api.System) (any, api.Errno) { return pair(chain.Greatest(s)) }},
		{"Least", func(s api.System) (any, api.Errno) { return pair(chain.Least(s)) }},
		{"Reach", func(s api.System) (any, api.Errno) { return pair(chain.Reach(s, from, to)) }},
		{"Slack", func(s api.System) (any, api.Errno) { return pair(chain.Slack(s, from)) }},
		{"Suspects", func(s api.System) (any, api.Errno) { return pair(chain.Suspects(s)) }},
		{"Idle", func(s api.System) (any, api.Errno) { return pair(chain.Idle(s)) }},
		{"Reduce", func(s api.System) (any, api.Errno) { return pair(chain.Reduce(s)) }},
		{"With", func(s api.System) (any, api.Errno) { return pair(chain.With(s, further)) }},
		{"Without", func(s api.System) (any, api.Errno) { return pair(chain.Without(s, l)) }},
		{"Print", func(s api.System) (any, api.Errno) { return pair(chain.Print(s)) }},
	}
}

func pair[T any](x T, e api.Errno) (any, api.Errno) { return x, e }

// isNothing reports whether a result is a zero value, where an empty list is one, too.
func isNothing(x any) bool {
	if x == nil {
		return true
	}
	v := reflect.ValueOf(x)
	if v.Kind() == reflect.Slice {
		return v.Len() == 0
	}
	return v.IsZero()
}

// same compares two systems, in which an empty list may be nil.
func same(a, b api.System) bool { return a.Nodes == b.Nodes && slices.Equal(a.Links, b.Links) }

// bounds returns what Tight tells of a system that has to be consistent.
func bounds(t *testing.T, s api.System) [][]int {
	t.Helper()
	d, e := chain.Tight(s)
	if e != api.OK {
		t.Fatal("P2.7: Tight:", s, e)
	}
	return d
}

func isConsistent(t *testing.T, s api.System) bool {
	t.Helper()
	ok, e := chain.Consistent(s)
	if e != api.OK {
		t.Fatal("P2.2: Consistent:", s, e)
	}
	return ok
}

func sameTable(a, b [][]int) bool { return slices.EqualFunc(a, b, slices.Equal[[]int]) }
