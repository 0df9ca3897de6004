package compare_test

import (
	"math/rand"
	"slices"
	"testing"

	"wringing/api"
	"wringing/compare"
)

func TestNodesExamples(t *testing.T) {
	piles := changed(plain(4), func(b *api.Book) {
		b.Gauges[2].Made = 3
		b.Compares = []api.Compare{
			cold(4, 9, []int{1, 4}, []int{2, 4}, 0, 0), cold(3, 5, []int{3, 4}, []int{3}, 0, 0), cold(2, 5, nil, []int{4}, 0, 0), cold(1, 3, []int{3}, nil, 0, 0),
		}
		b.Looks = []api.Node{node(4, 8), node(1, 20), node(4, 0), node(1, 9), node(4, 8), node(1, 2)}
	})
	for i, c := range []struct {
		b    api.Book
		want []api.Node
	}{
		{api.Book{}, nil},
		{example(), []api.Node{node(1, 0), node(1, 10), node(2, 0), node(2, 10)}},
		{piles, []api.Node{node(1, 0), node(1, 2), node(1, 9), node(1, 20), node(2, 0), node(2, 9), node(3, 3), node(4, 0), node(4, 5), node(4, 8)}},
	} {
		nodes, e := compare.Nodes(c.b)
		if !slices.Equal(nodes, c.want) || e != api.OK {
			t.Error("P5.6: Nodes:", i, nodes, e)
		}
		for k, n := range c.want {
			if index, e := compare.Index(c.b, n); index != k+1 || e != api.OK {
				t.Error("P5.6: Index:", i, n, index, e)
			}
		}
	}
	for _, n := range []api.Node{{}, node(4, 9), node(3, 5), node(3, 0), node(0, 9), node(5, 0), node(-1, 9), node(1, mostInt), node(1, leastInt), node(mostInt, 0)} {
		if index, e := compare.Index(piles, n); index != 0 || e != api.ErrNone {
			t.Error("P5.6: Index:", n, index, e)
		}
	}
}

func TestSystemExamples(t *testing.T) {
	s, sources, e := compare.System(example())
	links := []api.Link{
		{From: 0, To: 1, Most: 1005}, {From: 1, To: 0, Most: -995}, {From: 1, To: 2, Most: 0}, {From: 2, To: 1, Most: 0},
		{From: 0, To: 3, Most: 1050}, {From: 3, To: 0, Most: -950}, {From: 3, To: 4, Most: 0}, {From: 4, To: 3, Most: 0},
		{From: 4, To: 2, Most: 11}, {From: 2, To: 4, Most: 6},
	}
	made, wear, shown := api.Source{Kind: api.SoMade}, api.Source{Kind: api.SoWear}, api.Source{Kind: api.SoCompare}
	made1, wear1 := api.Source{Kind: api.SoMade, Which: 1}, api.Source{Kind: api.SoWear, Which: 1}
	want := []api.Source{made, made, wear, wear, made1, made1, wear1, wear1, shown, shown}
	if s.Nodes != 5 || !slices.Equal(s.Links, links) || !slices.Equal(sources, want) || e != api.OK {
		t.Error("P5.6: System:", s, sources, e)
	}
	s, sources, e = compare.System(api.Book{})
	if s.Nodes != 1 || len(s.Links) != 0 || len(sources) != 0 || e != api.OK {
		t.Error("P5.6: System of an empty book:", s, sources, e)
	}
	s, sources, e = compare.System(filled())
	if s.Nodes != api.MaxNodes || len(s.Links) != 2*(api.MaxNodes-1+api.MaxCompares) || len(sources) != len(s.Links) || e != api.OK {
		t.Error("P5.6: System of a full book:", s, sources, e)
	}
}

// systemOf returns the system of a book, by the words of the chapter.
func systemOf(t *testing.T, b api.Book) (api.System, []api.Source) {
	t.Helper()
	nodes := nodesOf(b)
	index := func(ids []int, day int) int {
		if len(ids) == 0 {
			return 0
		}
		return slices.Index(nodes, node(ids[0], day)) + 1
	}
	s := api.System{Nodes: len(nodes) + 1}
	var sources []api.Source
	add := func(from, to, most, kind, which int) {
		s.Links = append(s.Links, api.Link{From: from, To: to, Most: most})
		sources = append(sources, api.Source{Kind: kind, Which: which})
	}
	for i, g := range b.Gauges {
		first := index([]int{g.ID}, g.Made)
		add(0, first, g.Nominal+g.Tol.Hi, api.SoMade, i)
		add(first, 0, -(g.Nominal + g.Tol.Lo), api.SoMade, i)
		for d := first; d < len(nodes) && nodes[d].Gauge == g.ID; d++ {
			sum := 0
			for day := nodes[d-1].Day; day < nodes[d].Day; day++ {
				sum += lossOn(b, g, day)
			}
			add(d, d+1, 0, api.SoWear, i)
			add(d+1, d, sum, api.SoWear, i)
		}
	}
	for i, c := range b.Compares {
		x, y := leftOf(c.A, c.B)
		says, e := compare.Says(b, i)
		if e != api.OK {
			t.Fatal("P5.5: Says:", b, i, e)
		}
		add(index(y, c.Day), index(x, c.Day), says.Hi, api.SoCompare, i)
		add(index(x, c.Day), index(y, c.Day), -says.Lo, api.SoCompare, i)
	}
	return s, sources
}

func TestSystemByDefinition(t *testing.T) {
	for _, s := range scenes(25, 4, 6) {
		if nodes := mustNodes(t, s.b); !slices.Equal(nodes, nodesOf(s.b)) {
			t.Fatal("P5.6: Nodes:", s.b, nodes)
		}
		system, sources := mustSystem(t, s.b)
		want, wanted := systemOf(t, s.b)
		if system.Nodes != want.Nodes || !slices.Equal(system.Links, want.Links) || !slices.Equal(sources, wanted) {
			t.Fatal("P5.6: System:", s.b, system, sources)
		}
	}
}

func TestFitsExamples(t *testing.T) {
	heavy := changed(example(), func(b *api.Book) { b.Looks = []api.Node{node(1, 25)} })
	for i, c := range []struct {
		b       api.Book
		lengths []int
		fits    bool
	}{
		{api.Book{}, nil, true},
		{api.Book{}, []int{}, true},
		{example(), []int{1000, 1000, 990, 990}, true},
		{example(), []int{1000, 999, 990, 990}, false},
		{example(), []int{1000, 1001, 990, 990}, false},
		{example(), []int{1005, 1005, 994, 994}, true},
		{example(), []int{1006, 1006, 1000, 1000}, false},
		{example(), []int{994, 994, 994, 994}, false},
		{example(), []int{995, 995, 1001, 1001}, true},
		{example(), []int{995, 995, 1002, 1002}, false},
		{example(), []int{995, 995, 984, 984}, true},
		{example(), []int{995, 995, 983, 983}, false},
		{example(), []int{api.MaxBound, -api.MaxBound, api.MaxBound, -api.MaxBound}, false},
		{heavy, []int{1000, 1000, 1000, 990, 990}, true},
		{heavy, []int{1000, 1000, 984, 990, 990}, true},
		{heavy, []int{1000, 1000, 983, 990, 990}, false},
		{plain(1), []int{91}, true}, {plain(1), []int{90}, false}, {plain(1), []int{109}, true}, {plain(1), []int{110}, false},
	} {
		if fits, e := compare.Fits(c.b, c.lengths); fits != c.fits || e != api.OK {
			t.Error("P5.7: Fits:", i, fits, e)
		}
	}
}

// TestFitsByDefinition looks for histories day by day.
func TestFitsByDefinition(t *testing.T) {
	r := rand.New(rand.NewSource(51))
	count := map[bool]int{}
	for _, s := range scenes(400, 3, 5) {
		nodes := nodesWithin(t, s.b)
		for _, lengths := range s.nearby(t, r, 20) {
			fits := mustFit(t, s.b, lengths)
			count[fits]++
			if fits != hasHistory(s.b, nodes, lengths) {
				t.Fatal("P5.12: Fits:", s.b, lengths, fits)
			}
		}
	}
	if count[true] < 1000 || count[false] < 1000 {
		t.Error("too few lists that fit, or that do not:", count)
	}
}

// nodesWithin returns the nodes of a scene's book, all of which lie in its few days.
func nodesWithin(t *testing.T, b api.Book) []api.Node {
	t.Helper()
	nodes := mustNodes(t, b)
	for _, n := range nodes {
		if n.Day > sceneDays {
			t.Fatal("P5.6: Nodes:", b, nodes)
		}
	}
	return nodes
}

func TestWearsExamples(t *testing.T) {
	b := changed(example(), func(b *api.Book) {
		b.Compares = nil
		b.Uses = append(b.Uses, use(1, 12))
		b.Looks = []api.Node{node(1, 11), node(1, 13), node(1, 21), node(1, 24)}
	})
	// The days 10, 12, 20, 21, 22 and 23 can be lossy.
	lost := func(at map[int]int) []int {
		l := make([]int, 24)
		for day, n := range at {
			l[day] = n
		}
		return l
	}
	for i, c := range []struct {
		lengths, want []int
	}{
		{[]int{1000, 1000, 1000, 1000, 1000, 1000}, lost(nil)},
		{[]int{1000, 999, 998, 995, 986, 1000}, lost(map[int]int{10: 1, 12: 1, 20: 3, 21: 3, 22: 3, 23: 3})},
		{[]int{1000, 1000, 999, 998, 996, 1000}, lost(map[int]int{12: 1, 20: 1, 21: 2})},
		{[]int{1000, 999, 999, 997, 993, 1000}, lost(map[int]int{10: 1, 20: 2, 21: 3, 22: 1})},
	} {
		if wears, e := compare.Wears(b, 1, c.lengths); !slices.Equal(wears, c.want) || e != api.OK {
			t.Error("P5.8: Wears:", i, wears, e)
		}
		if wears, e := compare.Wears(b, 2, c.lengths); len(wears) != 0 || e != api.OK {
			t.Error("P5.8: Wears of a gauge with one node:", i, wears, e)
		}
	}
	for i, lengths := range [][]int{{1000, 998, 998, 998, 998, 1000}, {1000, 1000, 1000, 1000, 990, 1000}, {1000, 1000, 1000, 1000, 1000, 1051}, {1000, 1000, 1000, 1001, 1000, 1000}} {
		for _, id := range []int{1, 2} {
			if wears, e := compare.Wears(b, id, lengths); len(wears) != 0 || e != api.ErrProof {
				t.Error("P5.8: Wears:", i, wears, e)
			}
		}
	}
}

func TestWearsOfManyDays(t *testing.T) {
	b := changed(plain(2), func(b *api.Book) {
		b.Gauges[1].Made, b.Gauges[1].Wear = 500, 4
		b.Uses = []api.Use{use(2, 600), use(2, 500+api.MaxSpan-1)}
		b.Looks = []api.Node{node(1, api.MaxDay), node(2, 500+api.MaxSpan), node(2, 700)}
	})
	lengths := []int{100, 100, 100, 97, 93}
	want := make([]int, api.MaxSpan)
	want[100], want[api.MaxSpan-1] = 3, 4
	if wears, e := compare.Wears(b, 2, lengths); !slices.Equal(wears, want) || e != api.OK {
		t.Error("P5.8: Wears of the most days:", len(wears), e)
	}
	if wears, e := compare.Wears(b, 1, lengths); len(wears) != 0 || e != api.ErrLimit {
		t.Error("P5.8: Wears of all days:", len(wears), e)
	}
	b.Looks[1].Day++
	if wears, e := compare.Wears(b, 2, lengths); len(wears) != 0 || e != api.ErrLimit {
		t.Error("P5.8: Wears of a day too many:", len(wears), e)
	}
	if wears, e := compare.Wears(b, 2, []int{100, 100, 100, 101, 93}); len(wears) != 0 || e != api.ErrProof {
		t.Error("P5.8: Wears of too many days, for lengths that do not fit:", len(wears), e)
	}
}

// lastLosses returns the last list of losses that leads through lengths at nodes, found by trying all.
func lastLosses(b api.Book, g api.Gauge, at map[int]int, day, length, lastDay int) ([]int, bool) {
	if want, ok := at[day]; ok && want != length {
		return nil, false
	}
	if day == lastDay {
		return nil, true
	}
	for lost := lossOn(b, g, day); lost >= 0; lost-- {
		if rest, ok := lastLosses(b, g, at, day+1, length-lost, lastDay); ok {
			return append([]int{lost}, rest...), true
		}
	}
	return nil, false
}

// TestWearsByTrying also checks that losses are possible, and lead from node to node.
func TestWearsByTrying(t *testing.T) {
	r := rand.New(rand.NewSource(52))
	lossy := 0
	for _, s := range scenes(300, 3, 3) {
		nodes := nodesWithin(t, s.b)
		for _, lengths := range s.nearby(t, r, 5) {
			fits := mustFit(t, s.b, lengths)
			for _, g := range s.b.Gauges {
				wears, e := compare.Wears(s.b, g.ID, lengths)
				if !fits {
					if e != api.ErrProof || len(wears) != 0 {
						t.Fatal("P5.8: Wears:", s.b, lengths, wears, e)
					}
					continue
				}
				at, lastDay := map[int]int{}, 0
				for i, n := range nodes {
					if n.Gauge == g.ID {
						at[n.Day], lastDay = lengths[i], n.Day
					}
				}
				want, ok := lastLosses(s.b, g, at, g.Made, at[g.Made], lastDay)
				if !ok || !slices.Equal(wears, want) || e != api.OK {
					t.Fatal("P5.8: Wears:", s.b, g, lengths, wears, want, e)
				}
				checkLosses(t, s.b, g, at, wears)
				if slices.Max(append(wears, 0)) > 0 {
					lossy++
				}
			}
		}
	}
	if lossy < 200 {
		t.Error("too few losses:", lossy)
	}
}

func checkLosses(t *testing.T, b api.Book, g api.Gauge, at map[int]int, wears []int) {
	t.Helper()
	length := at[g.Made]
	for i, lost := range wears {
		if lost < 0 || lost > lossOn(b, g, g.Made+i) {
			t.Fatal("P5.13: Wears:", b, g, wears)
		}
		length -= lost
		if want, ok := at[g.Made+i+1]; ok && want != length {
			t.Fatal("P5.13: Wears:", b, g, wears)
		}
	}
}
