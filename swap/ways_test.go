package swap_test

import (
	"math/rand"
	"slices"
	"testing"

	"wringing/api"
	"wringing/compare"
	"wringing/swap"
)

func TestWaysExamples(t *testing.T) {
	for i, c := range []struct {
		m    api.Mixed
		want [][][]int
	}{
		{api.Mixed{}, [][][]int{{}}},
		{box(3), [][][]int{nil}},
		{example(), [][][]int{{{2, 3}}, {{3, 2}}}},
		{box(3, mix(5, 1, 2, 3)), [][][]int{{{1, 2, 3}}, {{1, 3, 2}}, {{2, 1, 3}}, {{3, 2, 1}}, {{2, 3, 1}}, {{3, 1, 2}}}},
		{box(3, mix(5, 1, 2), mix(6, 2, 3)), [][][]int{{{1, 2}, {2, 3}}, {{1, 2}, {3, 2}}, {{2, 1}, {2, 3}}, {{2, 1}, {3, 2}}}},
		{box(3, mix(5, 1, 3), mix(6, 1, 2, 3)), [][][]int{
			{{1, 3}, {1, 2, 3}},
			{{1, 3}, {1, 3, 2}}, {{1, 3}, {2, 1, 3}}, {{1, 3}, {3, 2, 1}}, {{3, 1}, {1, 2, 3}},
			{{1, 3}, {2, 3, 1}}, {{1, 3}, {3, 1, 2}},
			{{3, 1}, {1, 3, 2}}, {{3, 1}, {2, 1, 3}}, {{3, 1}, {3, 2, 1}},
			{{3, 1}, {2, 3, 1}}, {{3, 1}, {3, 1, 2}},
		}},
	} {
		if ways, e := swap.Ways(c.m); !sameWays(ways, c.want) || e != api.OK {
			t.Error("P7.2: Ways:", i, ways, e)
		}
	}
}

func TestWaysInOrder(t *testing.T) {
	l := []api.Mixed{filled(), box(5, mix(0, 1, 2, 3, 4, 5)), box(5, mix(0, 1, 2, 3), mix(2, 2, 4, 5), mix(5, 1, 5), mix(6, 3, 4))}
	for i, m := range append(l, cases(100, true)...) {
		want := waysOf(m)
		ways, e := swap.Ways(m)
		if !sameWays(ways, want) || e != api.OK {
			t.Fatal("P7.2: Ways:", i, ways, e)
		}
		for j, way := range ways {
			weight, e := swap.Weight(m, way)
			if weight != weightOf(m, way) || e != api.OK {
				t.Fatal("P7.2: Weight:", m, way, weight, e)
			}
			if weight == 1 || (weight == 0) != (j == 0) {
				t.Fatal("P7.11: Weight:", m, way, weight)
			}
		}
	}
}

func TestWeightExamples(t *testing.T) {
	m := box(5, mix(1, 1, 2, 4), mix(2, 2, 3))
	for i, c := range []struct {
		way  [][]int
		want int
		e    api.Errno
	}{
		{[][]int{{1, 2, 4}, {2, 3}}, 0, api.OK},
		{[][]int{{1, 4, 2}, {2, 3}}, 2, api.OK},
		{[][]int{{4, 1, 2}, {2, 3}}, 3, api.OK},
		{[][]int{{4, 1, 2}, {3, 2}}, 5, api.OK},
		{nil, 0, api.ErrArg},
		{[][]int{{1, 2, 4}}, 0, api.ErrArg},
		{[][]int{{1, 2, 4}, {2, 3}, {}}, 0, api.ErrArg},
		{[][]int{{2, 3}, {1, 2, 4}}, 0, api.ErrArg},
		{[][]int{{1, 2}, {2, 3}}, 0, api.ErrArg},
		{[][]int{{1, 2, 4}, nil}, 0, api.ErrArg},
		{[][]int{{1, 2, 4, 0}, {2, 3}}, 0, api.ErrArg},
		{[][]int{{1, 2, 4}, {2, 3, 0}}, 0, api.ErrArg},
		{[][]int{{1, 2, 4}, {0, 2, 3}}, 0, api.ErrArg},
		{[][]int{{1, 2, 2}, {2, 3}}, 0, api.ErrArg},
		{[][]int{{1, 4, 4}, {2, 3}}, 0, api.ErrArg},
		{[][]int{{1, 2, 3}, {2, 3}}, 0, api.ErrArg},
		{[][]int{{1, 2, 4}, {3, 3}}, 0, api.ErrArg},
		{[][]int{{1, 2, 4}, {2, 4}}, 0, api.ErrArg},
		{[][]int{{1, 2, 4}, {2, 3, 2, 3, 2, 3}}, 0, api.ErrArg},
		{[][]int{slices.Repeat([]int{1, 2, 4}, 1000), {2, 3}}, 0, api.ErrArg},
		{slices.Repeat([][]int{{2, 3}}, 1000), 0, api.ErrArg},
	} {
		if weight, e := swap.Weight(m, c.way); weight != c.want || e != c.e {
			t.Error("P7.2: Weight:", i, weight, e)
		}
	}
}

func TestWhoExamples(t *testing.T) {
	stay, moved := [][]int{{2, 3}}, [][]int{{3, 2}}
	round := box(4, mix(3, 1, 2, 3), mix(6, 2, 3, 4))
	way := [][]int{{2, 3, 1}, {3, 4, 2}}
	for i, c := range []struct {
		m                 api.Mixed
		way               [][]int
		label, day, gauge int
	}{
		{example(), stay, 2, 20, 2},
		{example(), moved, 2, 0, 2},
		{example(), moved, 2, 12, 2},
		{example(), moved, 2, 13, 3},
		{example(), moved, 3, 13, 2},
		{example(), moved, 1, 13, 1},
		{example(), moved, 3, api.MaxDay, 2},
		{box(3), nil, 3, 7, 3},
		// The gauge 1 gets the label 2, 2 gets 3, and 3 gets 1; then what bears 2 gets 3, what bears 3 gets 4, and 4 gets 2.
		{round, way, 1, 3, 1},
		{round, way, 1, 4, 3},
		{round, way, 2, 4, 1},
		{round, way, 3, 4, 2},
		{round, way, 4, 4, 4},
		{round, way, 1, 6, 3},
		{round, way, 1, 7, 3},
		{round, way, 2, 7, 4},
		{round, way, 3, 7, 1},
		{round, way, 4, 7, 2},
	} {
		if gauge, e := swap.Who(c.m, c.way, c.label, c.day); gauge != c.gauge || e != api.OK {
			t.Error("P7.3: Who:", i, gauge, e)
		}
		if label, e := swap.Label(c.m, c.way, c.gauge, c.day); label != c.label || e != api.OK {
			t.Error("P7.3: Label:", i, label, e)
		}
	}
}

func TestWhoAndLabel(t *testing.T) {
	r := rand.New(rand.NewSource(71))
	for _, m := range append(cases(60, true), filled()) {
		ways := waysOf(m)
		for range 60 {
			if len(m.Book.Gauges) == 0 {
				break
			}
			way, day := ways[r.Intn(len(ways))], r.Intn(sceneDays+2)
			if r.Intn(3) == 0 {
				day = r.Intn(120)
			}
			id := m.Book.Gauges[r.Intn(len(m.Book.Gauges))].ID
			gauge, e := swap.Who(m, way, id, day)
			if gauge != whoBears(m, way, id, day) || e != api.OK {
				t.Fatal("P7.3: Who:", m, way, id, day, gauge, e)
			}
			label, e := swap.Label(m, way, id, day)
			if label != borneBy(m, way, id, day) || e != api.OK {
				t.Fatal("P7.3: Label:", m, way, id, day, label, e)
			}
			if back, e := swap.Label(m, way, gauge, day); back != id || e != api.OK {
				t.Fatal("P7.11: Label of Who:", m, way, id, day, back, e)
			}
			if back, e := swap.Who(m, way, label, day); back != id || e != api.OK {
				t.Fatal("P7.11: Who of Label:", m, way, id, day, back, e)
			}
		}
	}
}

func TestTranslateExample(t *testing.T) {
	m := box(4, mix(3, 1, 2), mix(6, 2, 3))
	m.Book.Film = span(1, 2)
	m.Book.Gauges[3].Wear = 5
	m.Book.Uses = []api.Use{use(2, 7), use(1, 3), use(1, 4), use(4, 9)}
	m.Book.Loans = []api.Loan{loan(3, 8, 12, 1), loan(1, 5, 20, 0), loan(2, 0, 2, 0)}
	m.Book.Compares = []api.Compare{
		cold(5, 7, []int{2, 3, 4}, []int{3, 4}, 9, 1), cold(4, 4, []int{2}, []int{3}, 8, 1), cold(6, 4, []int{2, 3}, []int{1, 2}, 7, 0),
	}
	m.Book.Looks = []api.Node{node(3, 7), node(3, 6), node(3, 7)}
	want := changed(m, func(m *api.Mixed) {
		m.Book.Uses = []api.Use{use(3, 7), use(1, 3), use(2, 4), use(4, 9)}
		m.Book.Loans = []api.Loan{loan(1, 8, 12, 1), loan(2, 5, 20, 0), loan(2, 0, 2, 0)}
		m.Book.Compares = []api.Compare{
			cold(5, 7, []int{1, 3, 4}, []int{1, 4}, 9, 1), cold(4, 4, []int{1}, []int{3}, 8, 1), cold(6, 4, []int{1, 3}, []int{1, 2}, 7, 0),
		}
		m.Book.Looks = []api.Node{node(1, 7), node(3, 6), node(1, 7)}
	}).Book
	if b, e := swap.Translate(m, [][]int{{2, 1}, {3, 2}}); !sameBook(b, want) || e != api.OK {
		t.Error("P7.3: Translate:", b, e)
	}
	if b, e := swap.Translate(m, [][]int{{1, 2}, {2, 3}}); !sameBook(b, m.Book) || e != api.OK {
		t.Error("P7.3: Translate:", b, e)
	}
	m.Mixes = nil
	if b, e := swap.Translate(m, nil); !sameBook(b, m.Book) || e != api.OK {
		t.Error("P7.11: Translate:", b, e)
	}
}

func TestTranslations(t *testing.T) {
	for _, m := range append(cases(200, false), filled()) {
		for _, way := range waysOf(m) {
			want := translationOf(m, way)
			b, e := swap.Translate(m, way)
			if !sameBook(b, want) || e != api.OK {
				t.Fatal("P7.3: Translate:", m, way, b, e)
			}
			nodes, e := compare.Nodes(b)
			before, f := compare.Nodes(m.Book)
			if e != api.OK || f != api.OK || len(nodes) != len(before) {
				t.Fatal("P7.14: a translation:", m, way, b, e)
			}
			if !slices.EqualFunc(m.Book.Compares, b.Compares, func(c, d api.Compare) bool {
				return c.ID == d.ID && len(c.A) == len(d.A) && len(c.B) == len(d.B)
			}) {
				t.Fatal("P7.18: comparisons of a translation:", m, way, b)
			}
			if ways, e := swap.Ways(api.Mixed{Book: b}); !sameWays(ways, [][][]int{{}}) || e != api.OK {
				t.Fatal("P7.11: Ways:", ways, e)
			}
		}
	}
}
