package chain_test

import (
	"slices"
	"testing"

	"wringing/api"
	"wringing/chain"
)

func TestClashExamples(t *testing.T) {
	for i, c := range []struct {
		s    api.System
		want []int
		e    api.Errno
	}{
		{clashing(), []int{0, 5}, api.OK},
		{example(), nil, api.ErrNone},
		{system(1), nil, api.ErrNone},
		{cycle(api.MaxNodes, -1), sequence(api.MaxNodes), api.OK},
		{cycle(api.MaxNodes, -api.MaxBound), sequence(api.MaxNodes), api.OK},
		{cycle(api.MaxNodes, 0), nil, api.ErrNone},
		// A shorter one comes first, though its indices are greater and its sum is not the least one.
		{system(5, link(0, 1, -9), link(1, 2, -9), link(2, 0, -9), link(4, 3, 5), link(3, 4, -6)), []int{3, 4}, api.OK},
		// Of links with the same ends, the first one that does is taken, not the least one.
		{system(2, link(1, 0, 4), link(0, 1, -2), link(0, 1, -9), link(1, 0, 1)), []int{0, 2}, api.OK},
		{system(3, link(1, 2, 0), link(2, 1, 3), link(2, 1, -1), link(2, 1, -2)), []int{0, 2}, api.OK},
		// The first link of the chain is the least one of all its links, so its node is not always the first one.
		{system(3, link(2, 0, -1), link(0, 1, 0), link(1, 2, 0)), []int{0, 1, 2}, api.OK},
	} {
		if l, e := chain.Clash(c.s); !slices.Equal(l, c.want) || e != c.e {
			t.Error("P2.2: Clash:", i, l, e)
		}
	}
}

func TestClashIsFirst(t *testing.T) {
	clashes := 0
	for _, s := range smallSystems(1500) {
		want, found := firstList(s, s.Nodes, func(l []int) bool { return closedBelow(s, l) })
		l, e := chain.Clash(s)
		if found && (!slices.Equal(l, want) || e != api.OK) || !found && (len(l) != 0 || e != api.ErrNone) {
			t.Fatal("P2.2: Clash:", s, l, e)
		}
		if found {
			clashes++
		}
	}
	if clashes < 300 {
		t.Error("P2.2: Clash: only", clashes, "systems clash")
	}
}

func TestCheckClash(t *testing.T) {
	s := clashing()
	for i, c := range []struct {
		l    []int
		want api.Errno
	}{
		{[]int{0, 5}, api.OK},
		{[]int{5, 0}, api.OK},
		{[]int{5, 0, 5, 0}, api.OK},
		{[]int{0, 1, 3, 0, 5, 0, 5, 0, 5}, api.OK}, // 2 and three times -1
		{[]int{0, 1, 4, 5}, api.ErrProof},          // the sum 0
		{[]int{0, 1}, api.ErrProof},
		{[]int{1, 4}, api.ErrProof},
		{[]int{3}, api.ErrProof},
		{[]int{0, 3}, api.ErrProof},
		{[]int{5, 0, 5}, api.ErrProof}, // it is below 0, but not closed
		{nil, api.ErrProof},
		{[]int{}, api.ErrProof},
		{[]int{0, 5, -1}, api.ErrArg},
		{[]int{6, 5}, api.ErrArg},
		{[]int{0, 1, mostInt}, api.ErrArg},
		{[]int{leastInt}, api.ErrArg},
		{slices.Repeat([]int{0, 5}, api.MaxFits/2), api.OK},
		{make([]int, api.MaxFits), api.ErrProof},
		{make([]int, api.MaxFits+1), api.ErrLimit},
		{slices.Repeat([]int{0, 5}, api.MaxFits/2+1), api.ErrLimit},
		{slices.Repeat([]int{-1}, api.MaxFits+1), api.ErrLimit},
	} {
		if e := chain.CheckClash(s, c.l); e != c.want {
			t.Error("P2.3: CheckClash:", i, e)
		}
	}
	if e := chain.CheckClash(cycle(api.MaxNodes, -api.MaxBound), sequence(api.MaxNodes)); e != api.OK {
		t.Error("P2.3: CheckClash:", e)
	}
	if e := chain.CheckClash(system(1), []int{0}); e != api.ErrArg {
		t.Error("P2.3: CheckClash without links:", e)
	}
}

func TestChainExamples(t *testing.T) {
	s := example()
	for i, c := range []struct {
		s        api.System
		from, to int
		want     []int
		e        api.Errno
	}{
		{s, 0, 2, []int{0, 1}, api.OK},
		{s, 2, 1, []int{4}, api.OK},
		{s, 1, 0, []int{1, 3}, api.OK},
		{s, 0, 3, nil, api.ErrNone},
		{s, 3, 3, nil, api.OK},
		{s, 0, 0, nil, api.OK},
		{s, 0, 4, nil, api.ErrArg},
		{s, -1, 0, nil, api.ErrArg},
		{clashing(), 0, 2, nil, api.ErrClash},
		{cycle(2, 0), 0, 0, nil, api.OK}, // not once around
		{without(cycle(api.MaxNodes, -api.MaxBound), 59), 0, 59, sequence(59), api.OK},
		// Of several with the same sum: the shorter one, then the one with the lesser indices.
		{system(3, link(0, 1, 1), link(1, 2, 1), link(0, 2, 2)), 0, 2, []int{2}, api.OK},
		{system(2, link(0, 1, 3), link(0, 1, 2), link(0, 1, 2)), 0, 1, []int{1}, api.OK},
		{system(4, link(2, 3, 1), link(1, 3, 1), link(0, 2, 1), link(0, 1, 1)), 0, 3, []int{2, 0}, api.OK},
		{system(4, link(2, 3, 1), link(1, 3, 1), link(0, 1, 1), link(0, 2, 1)), 0, 3, []int{2, 1}, api.OK},
	} {
		if l, e := chain.Chain(c.s, c.from, c.to); !slices.Equal(l, c.want) || e != c.e {
			t.Error("P2.5: Chain:", i, l, e)
		}
	}
}

func TestChainIsFirst(t *testing.T) {
	for _, s := range smallSystems(600) {
		d, ok := floyd(s)
		if !ok {
			continue
		}
		for from := range d {
			for to := range d {
				want, found := firstList(s, s.Nodes-1, func(l []int) bool {
					sum, ok := sumOf(s, from, to, l)
					return ok && sum == d[from][to]
				})
				l, e := chain.Chain(s, from, to)
				if found && (!slices.Equal(l, want) || e != api.OK) || !found && (len(l) != 0 || e != api.ErrNone) {
					t.Fatal("P2.5: Chain:", s, from, to, l, e)
				}
			}
		}
	}
}

// firstChains returns, for each node, the first chain to a certain node with the least sum of exactly n links, for each n; nil where there is none.
func firstChains(s api.System, to int) [][][]int {
	rows := [][][]int{make([][]int, s.Nodes)}
	rows[0][to] = []int{}
	for len(rows) < s.Nodes {
		row := make([][]int, s.Nodes)
		for i, l := range s.Links {
			rest := rows[len(rows)-1][l.To]
			if rest == nil {
				continue
			}
			c := append([]int{i}, rest...)
			new, _ := sumOf(s, l.From, to, c)
			old, _ := sumOf(s, l.From, to, row[l.From])
			if row[l.From] == nil || new < old || new == old && slices.Compare(c, row[l.From]) < 0 {
				row[l.From] = c
			}
		}
		rows = append(rows, row)
	}
	return rows
}

func TestChainIsFirstInLargeSystems(t *testing.T) {
	for _, s := range largeSystems(6) {
		d, ok := floyd(s)
		if !ok {
			continue
		}
		for to := 0; to < s.Nodes; to += 5 {
			rows := firstChains(s, to)
			for from := range d {
				var want []int
				for _, row := range rows {
					if sum, ok := sumOf(s, from, to, row[from]); row[from] != nil && ok && sum == d[from][to] {
						want = row[from]
						break
					}
				}
				l, e := chain.Chain(s, from, to)
				if !slices.Equal(l, want) || (e == api.OK) != (want != nil) {
					t.Fatal("P2.5: Chain:", s, from, to, l, e)
				}
			}
		}
	}
}

func TestCheckChain(t *testing.T) {
	s := example()
	for i, c := range []struct {
		s        api.System
		from, to int
		l        []int
		want     int
		e        api.Errno
	}{
		{s, 0, 2, []int{0, 1}, 8, api.OK},
		{s, 0, 2, []int{2}, 9, api.OK},
		{s, 0, 2, []int{0, 1, 3, 0, 1}, 10, api.OK},
		{s, 0, 0, nil, 0, api.OK},
		{s, 3, 3, []int{}, 0, api.OK},
		{s, 0, 1, nil, 0, api.ErrProof},
		{s, 0, 2, []int{0}, 0, api.ErrProof},
		{s, 1, 2, []int{0, 1}, 0, api.ErrProof},
		{s, 0, 2, []int{1, 0}, 0, api.ErrProof},
		{s, 0, 2, []int{0, 2}, 0, api.ErrProof},
		{clashing(), 0, 1, []int{0, 5, 0}, 4, api.OK},
		{clashing(), 0, 0, []int{0, 5}, -1, api.OK},
		{s, -1, 2, []int{0, 1}, 0, api.ErrArg},
		{s, 0, 4, []int{0, 1}, 0, api.ErrArg},
		{s, 4, 4, nil, 0, api.ErrArg},
		{s, 0, 4, make([]int, api.MaxFits+1), 0, api.ErrArg},
		{s, 0, 2, make([]int, api.MaxFits+1), 0, api.ErrLimit},
		{s, 0, 2, slices.Repeat([]int{-1}, api.MaxFits+1), 0, api.ErrLimit},
		{s, 1, 1, slices.Repeat([]int{1, 4}, api.MaxFits/2+1), 0, api.ErrLimit},
		{s, 1, 1, slices.Repeat([]int{1, 4}, api.MaxFits/2), api.MaxFits / 2, api.OK},
		{s, 0, 2, []int{0, 5}, 0, api.ErrArg},
		{s, 0, 2, []int{4, -1}, 0, api.ErrArg},
		{s, 0, 2, []int{mostInt}, 0, api.ErrArg},
		{cycle(2, -api.MaxBound), 0, 0, slices.Repeat([]int{0, 1}, api.MaxFits/2), -api.MaxFits * api.MaxBound, api.OK},
	} {
		if n, e := chain.CheckChain(c.s, c.from, c.to, c.l); n != c.want || e != c.e {
			t.Error("P2.6: CheckChain:", i, n, e)
		}
	}
}

// sequence is the list of the first indices.
func sequence(n int) []int {
	l := make([]int, n)
	for i := range l {
		l[i] = i
	}
	return l
}
