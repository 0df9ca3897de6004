package swap_test

import (
	"math/rand"
	"slices"
	"testing"

	"wringing/api"
	"wringing/chain"
	"wringing/compare"
	"wringing/swap"
)

func systemOf(t *testing.T, m api.Mixed, way [][]int) api.System {
	t.Helper()
	s, _, e := compare.System(translationOf(m, way))
	if e != api.OK {
		t.Fatal("P7.14: not a valid book:", m, way, e)
	}
	return s
}

func TestProveExamples(t *testing.T) {
	// The links of the nodes are, by the first way: 1 on 0, 10, 15; 2 on 0, 10, 15; 3 on 0, 15; and then those of the comparisons.
	m := example(eight(), nine())
	chains, e := swap.Prove(m)
	if len(chains) != 2 || e != api.OK {
		t.Fatal("P7.8: Prove:", chains, e)
	}
	for i, way := range waysOf(m) {
		want, e := chain.Clash(systemOf(t, m, way))
		if !slices.Equal(chains[i], want) || e != api.OK {
			t.Error("P7.8: Prove:", i, chains[i], want, e)
		}
	}
	for i, c := range []struct {
		m      api.Mixed
		chains [][]int
		e      api.Errno
	}{
		{m, chains, api.OK},
		{m, nil, api.ErrProof},
		{m, chains[:1], api.ErrProof},
		{m, [][]int{chains[0], chains[1], chains[1]}, api.ErrProof},
		{m, [][]int{chains[0], nil}, api.ErrProof},
		{m, [][]int{nil, chains[1]}, api.ErrProof},
		{m, [][]int{chains[1], chains[0]}, api.ErrProof},
		{m, [][]int{chains[0], {mostInt}}, api.ErrProof},
		{m, [][]int{{-1}, chains[1]}, api.ErrProof},
		{m, [][]int{{0, 1}, chains[1]}, api.ErrProof},
		{m, [][]int{chains[0], slices.Repeat(chains[1], api.MaxFits)}, api.ErrProof},
		{m, [][]int{slices.Repeat(chains[0], 2), chains[1]}, api.OK},
		{m, slices.Repeat(chains, 1000), api.ErrProof},
		{example(), chains, api.ErrProof},
		{example(eight()), chains, api.ErrProof},
		{api.Mixed{}, nil, api.ErrProof},
		{api.Mixed{}, [][]int{{}}, api.ErrProof},
	} {
		if e := swap.CheckProof(c.m, c.chains); e != c.e {
			t.Error("P7.8: CheckProof:", i, e)
		}
	}
	for _, m := range []api.Mixed{{}, example(), example(eight()), example(nine()), filled()} {
		if chains, e := swap.Prove(m); len(chains) != 0 || e != api.ErrNone {
			t.Error("P7.8: Prove:", m, chains, e)
		}
	}
}

func TestProofsOfCases(t *testing.T) {
	r := rand.New(rand.NewSource(74))
	count := 0
	for _, m := range cases(300, false) {
		ways := waysOf(m)
		explained := len(explaining(t, m)) > 0
		chains, e := swap.Prove(m)
		if explained {
			if len(chains) != 0 || e != api.ErrNone {
				t.Fatal("P7.8, P7.12: Prove:", m, chains, e)
			}
			if e := swap.CheckProof(m, slices.Repeat([][]int{{0, 1}}, len(ways))); e != api.ErrProof {
				t.Fatal("P7.12: CheckProof:", m, e)
			}
			continue
		}
		if len(chains) != len(ways) || e != api.OK || swap.CheckProof(m, chains) != api.OK {
			t.Fatal("P7.8, P7.12: Prove:", m, chains, e)
		}
		for i, way := range ways {
			if want, e := chain.Clash(systemOf(t, m, way)); !slices.Equal(chains[i], want) || e != api.OK {
				t.Fatal("P7.8: Prove:", m, way, chains[i], want, e)
			}
		}
		count++
		for range 5 {
			i := r.Intn(len(chains))
			other := slices.Clone(chains)
			other[i] = slices.Clone(other[i])
			other[i][r.Intn(len(other[i]))] += r.Intn(5) - 2
			want := api.ErrProof
			if chain.CheckClash(systemOf(t, m, ways[i]), other[i]) == api.OK {
				want = api.OK
			}
			if e := swap.CheckProof(m, other); e != want {
				t.Fatal("P7.8: CheckProof:", m, other, e)
			}
		}
	}
	if count < 50 {
		t.Error("too few cases that are not explained:", count)
	}
}

func TestCheckWayExamples(t *testing.T) {
	stay, moved := [][]int{{2, 3}}, [][]int{{3, 2}}
	// The nodes are, by the way that moves: 1 on 0, 10 and 15, 2 on 0 and 10, 3 on 0 and 15.
	lengths := []int{1000, 1000, 1000, 990, 990, 1100, 1100}
	for i, c := range []struct {
		m       api.Mixed
		way     [][]int
		lengths []int
		e       api.Errno
	}{
		{example(), stay, []int{1000, 1000, 990, 990, 1100}, api.OK},
		{example(), moved, []int{1000, 1000, 990, 990, 1100}, api.OK},
		{example(), moved, []int{1000, 1000, 990, 991, 1100}, api.ErrProof},
		{example(eight()), moved, lengths, api.OK},
		{example(eight()), moved, []int{1000, 1000, 999, 990, 990, 1100, 1100}, api.OK},
		{example(eight()), moved, []int{1000, 1000, 998, 990, 990, 1100, 1100}, api.ErrProof},
		{example(eight()), stay, lengths, api.ErrProof},
		{example(eight()), moved, lengths[:6], api.ErrProof},
		{example(eight()), moved, append(lengths[:7:7], 1100), api.ErrProof},
		{example(eight()), moved, nil, api.ErrProof},
		{example(), moved, []int{1000, 1000, 990, 990, api.MaxBound + 1}, api.ErrProof},
		{example(), moved, []int{leastInt, mostInt, 990, 990, 1100}, api.ErrProof},
		{example(), [][]int{{2, 2}}, []int{1000, 1000, 990, 990, 1100}, api.ErrArg},
		{example(), nil, nil, api.ErrArg},
		{api.Mixed{}, nil, nil, api.OK},
		{api.Mixed{}, nil, []int{0}, api.ErrProof},
	} {
		if e := swap.CheckWay(c.m, c.way, c.lengths); e != c.e {
			t.Error("P7.9: CheckWay:", i, e)
		}
	}
}

// TestLengthsOfWays tries the greatest and the least lengths of each way, and some next to them.
func TestLengthsOfWays(t *testing.T) {
	r := rand.New(rand.NewSource(75))
	for _, m := range cases(300, false) {
		least, none := swap.Least(m)
		for _, way := range waysOf(m) {
			s := systemOf(t, m, way)
			greatest, e := chain.Greatest(s)
			if e != api.OK {
				lengths := make([]int, s.Nodes-1)
				if e := swap.CheckWay(m, way, lengths); e != api.ErrProof {
					t.Fatal("P7.9: CheckWay:", m, way, e)
				}
				continue
			}
			if e := swap.CheckWay(m, way, greatest[1:]); e != api.OK {
				t.Fatal("P7.9, P7.12: CheckWay:", m, way, greatest, e)
			}
			if none == api.OK && sameLists(way, least) && swap.CheckWay(m, least, greatest[1:]) != api.OK {
				t.Fatal("P7.12: Least:", m, least)
			}
			for range 4 {
				other := slices.Clone(greatest)
				if len(other) > 1 {
					other[1+r.Intn(len(other)-1)] += r.Intn(5) - 3
				}
				want := api.ErrProof
				if fits, _ := compare.Fits(translationOf(m, way), other[1:]); fits {
					want = api.OK
				}
				if e := swap.CheckWay(m, way, other[1:]); e != want {
					t.Fatal("P7.9: CheckWay:", m, way, other, e)
				}
			}
		}
	}
}
