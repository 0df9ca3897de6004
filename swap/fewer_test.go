package swap_test

import (
	"math/rand"
	"slices"
	"testing"

	"wringing/api"
	"wringing/swap"
)

func TestExplainedExamples(t *testing.T) {
	m := example(eight(), nine())
	for i, c := range []struct {
		m    api.Mixed
		ids  []int
		want bool
	}{
		{m, nil, true},
		{m, []int{7}, true},
		{m, []int{8}, true},
		{m, []int{9}, true},
		{m, []int{7, 8}, true},
		{m, []int{9, 7}, true},
		{m, []int{8, 9}, false},
		{m, []int{9, 8}, false},
		{m, []int{9, 9, 8, 8}, false},
		{m, []int{7, 8, 9}, false},
		{m, []int{-1, 0, 1, 8, mostInt, leastInt}, true},
		{m, []int{-1, 0, 1, 8, mostInt, leastInt, 9}, false},
		{m, slices.Repeat([]int{9, 10}, 10000), true},
		{example(ten()), []int{7}, true},
		{example(ten()), []int{10}, false},
		{api.Mixed{}, []int{1}, true},
	} {
		if explained, e := swap.Explained(c.m, c.ids); explained != c.want || e != api.OK {
			t.Error("P7.6: Explained:", i, explained, e)
		}
	}
}

func TestWithdrawnExamples(t *testing.T) {
	// The gauge 3 stands in both piles, so it is not left.
	both := cold(11, 9, []int{1, 3}, []int{3}, 2000, 0)
	for i, c := range []struct {
		m     api.Mixed
		label int
		want  bool
		e     api.Errno
	}{
		{example(), 1, false, api.OK},
		{example(), 2, false, api.OK},
		{example(eight(), nine()), 1, false, api.OK},
		{example(eight(), nine()), 2, false, api.OK},
		{example(eight(), nine()), 3, false, api.OK},
		{example(ten()), 1, true, api.OK},
		{example(ten()), 2, false, api.OK},
		{example(ten()), 3, false, api.OK},
		{example(both), 1, true, api.OK},
		{example(both), 2, false, api.OK},
		{example(both), 3, false, api.OK},
		{example(cold(12, 9, []int{2}, []int{1}, 500, 0)), 1, true, api.OK},
		{example(cold(12, 9, []int{2}, []int{1}, 500, 0)), 2, true, api.OK},
		{example(cold(12, 9, []int{2}, []int{1}, 500, 0)), 3, false, api.OK},
		{example(), 4, false, api.ErrNone},
		{example(), 0, false, api.ErrNone},
		{example(), 7, false, api.ErrNone},
	} {
		if withdrawn, e := swap.Withdrawn(c.m, c.label); withdrawn != c.want || e != c.e {
			t.Error("P7.6: Withdrawn:", i, withdrawn, e)
		}
	}
}

func TestCoreExamples(t *testing.T) {
	again := func(id int) api.Compare {
		c := nine()
		c.ID = id
		return c
	}
	for i, c := range []struct {
		m    api.Mixed
		want []int
		e    api.Errno
	}{
		{api.Mixed{}, nil, api.ErrNone},
		{example(), nil, api.ErrNone},
		{example(eight()), nil, api.ErrNone},
		{example(eight(), nine()), []int{8, 9}, api.OK},
		{example(nine(), eight()), []int{9, 8}, api.OK},
		{example(ten()), []int{10}, api.OK},
		{example(eight(), ten(), nine()), []int{10}, api.OK},
		{example(ten(), eight(), nine()), []int{10}, api.OK},
		// Of two that say the same, the last one is left out first.
		{example(again(3), eight(), again(2)), []int{3, 8}, api.OK},
		{example(eight(), again(3), again(2)), []int{8, 3}, api.OK},
	} {
		if core, e := swap.Core(c.m); !slices.Equal(core, c.want) || e != c.e {
			t.Error("P7.7: Core:", i, core, e)
		}
	}
}

func TestShortestExamples(t *testing.T) {
	m := example(eight(), nine())
	again := nine()
	again.ID = 3
	many := changed(example(eight(), nine(), ten()), func(m *api.Mixed) {
		for id := 20; id < 30; id++ {
			m.Book.Compares = append(m.Book.Compares, cold(id, 10, []int{2}, nil, 1000, 60))
		}
	})
	for i, c := range []struct {
		m    api.Mixed
		ids  []int
		want []int
		e    api.Errno
	}{
		{m, []int{7, 8, 9}, []int{8, 9}, api.OK},
		{m, []int{8, 9}, []int{8, 9}, api.OK},
		{m, []int{7, 8}, nil, api.ErrNone},
		{m, nil, nil, api.ErrNone},
		{m, []int{8, 10}, nil, api.ErrNone},
		{m, []int{8, 8}, nil, api.ErrTwice},
		{m, []int{9, 8}, nil, api.ErrTwice},
		{m, []int{9, 8, 10}, nil, api.ErrNone},
		{m, []int{0}, nil, api.ErrNone},
		{m, slices.Repeat([]int{10}, 9), nil, api.ErrLimit},
		{m, slices.Repeat([]int{8}, 8), nil, api.ErrTwice},
		{m, slices.Repeat([]int{8}, 9), nil, api.ErrLimit},
		{example(ten()), []int{7, 10}, []int{10}, api.OK},
		{example(eight(), ten(), nine()), []int{7, 8, 9, 10}, []int{10}, api.OK},
		{example(eight(), ten(), nine()), []int{7, 8, 9}, []int{8, 9}, api.OK},
		// The IDs decide, not the order in the book.
		{example(nine(), eight(), again), []int{3, 8, 9}, []int{3, 8}, api.OK},
		{many, []int{8, 9, 20, 21, 22, 23, 24, 25}, []int{8, 9}, api.OK},
		{many, []int{7, 8, 20, 21, 22, 23, 24, 29}, nil, api.ErrNone},
		{many, []int{7, 8, 9, 20, 21, 22, 23, 24, 25}, nil, api.ErrLimit},
	} {
		if list, e := swap.Shortest(c.m, c.ids); !slices.Equal(list, c.want) || e != c.e {
			t.Error("P7.7: Shortest:", i, list, e)
		}
	}
}

// chained is a case in which eight comparisons together are not explained, and no fewer: each label is 17 units longer than the one before it, but the last one is not 102 units longer than the first one.
func chained() api.Mixed {
	m := box(7, mix(2, 1, 2, 3), mix(5, 4, 5, 6))
	for i := range m.Book.Gauges {
		m.Book.Gauges[i].Nominal, m.Book.Gauges[i].Tol = 100, span(-200, 200)
	}
	for i := range 6 {
		m.Book.Compares = append(m.Book.Compares, cold(i+1, 9, []int{i + 2}, []int{i + 1}, 17, 0))
	}
	m.Book.Compares = append(m.Book.Compares, cold(7, 9, []int{1}, nil, 60, 8), cold(8, 9, []int{7}, nil, 100, 12))
	return m
}

func TestLongShortest(t *testing.T) {
	m, all := chained(), []int{1, 2, 3, 4, 5, 6, 7, 8}
	if list, e := swap.Shortest(m, all); !slices.Equal(list, all) || e != api.OK {
		t.Error("P7.7: Shortest:", list, e)
	}
	if core, e := swap.Core(m); !slices.Equal(core, all) || e != api.OK {
		t.Error("P7.7: Core:", core, e)
	}
}

func isExplained(t *testing.T, m api.Mixed, ids []int) bool {
	t.Helper()
	return len(explaining(t, onlyOf(m, ids))) > 0
}

// without returns a list without an element.
func without(l []int, x int) []int {
	return slices.DeleteFunc(slices.Clone(l), func(y int) bool { return x == y })
}

// coreOf returns what Core returns, by the words of the chapter.
func coreOf(t *testing.T, m api.Mixed) []int {
	t.Helper()
	left := idsOf(m)
	for i := len(m.Book.Compares) - 1; i >= 0; i-- {
		if rest := without(left, m.Book.Compares[i].ID); !isExplained(t, m, rest) {
			left = rest
		}
	}
	return left
}

// shortestOf returns what Shortest returns, by the words of the chapter.
func shortestOf(t *testing.T, m api.Mixed, ids []int) []int {
	t.Helper()
	var best []int
	for set := range 1 << len(ids) {
		var list []int
		for i, id := range ids {
			if set>>i&1 == 1 {
				list = append(list, id)
			}
		}
		better := best == nil || len(list) < len(best) || len(list) == len(best) && slices.Compare(list, best) < 0
		if better && !isExplained(t, m, list) {
			best = list
		}
	}
	return best
}

func TestFewerOfCases(t *testing.T) {
	r := rand.New(rand.NewSource(73))
	count := map[int]int{}
	for _, m := range cases(250, false) {
		ids := idsOf(m)
		some := slices.DeleteFunc(slices.Clone(ids), func(int) bool { return r.Intn(4) == 0 })
		if explained, e := swap.Explained(m, some); explained != isExplained(t, m, some) || e != api.OK {
			t.Fatal("P7.6: Explained:", m, some, explained, e)
		}
		for _, g := range m.Book.Gauges {
			var of []int
			for _, c := range m.Book.Compares {
				if slices.Contains(c.A, g.ID) != slices.Contains(c.B, g.ID) {
					of = append(of, c.ID)
				}
			}
			if withdrawn, e := swap.Withdrawn(m, g.ID); withdrawn == isExplained(t, m, of) || e != api.OK {
				t.Fatal("P7.6: Withdrawn:", m, g.ID, withdrawn, e)
			}
		}
		slices.Sort(some)
		core, e := swap.Core(m)
		list, f := swap.Shortest(m, some)
		want := shortestOf(t, m, some)
		if !slices.Equal(list, want) || (f == api.OK) != (want != nil) || f != api.OK && f != api.ErrNone {
			t.Fatal("P7.7: Shortest:", m, some, list, f, want)
		}
		if isExplained(t, m, ids) {
			if len(core) != 0 || e != api.ErrNone {
				t.Fatal("P7.7: Core:", m, core, e)
			}
			continue
		}
		if want := coreOf(t, m); !slices.Equal(core, want) || e != api.OK {
			t.Fatal("P7.7: Core:", m, core, e, want)
		}
		mustBeLeast(t, m, core)
		if f == api.OK {
			mustBeLeast(t, m, list)
		}
		count[len(core)]++
		count[-len(list)]++
	}
	if count[1] < 5 || count[2] < 20 || count[3] < 5 || count[-2] < 20 || count[-3] < 5 {
		t.Error("too few cores and shortest lists:", count)
	}
}

// mustBeLeast holds that some comparisons are not explained, and are so without any one of them.
func mustBeLeast(t *testing.T, m api.Mixed, ids []int) {
	t.Helper()
	if explained, e := swap.Explained(m, ids); explained || e != api.OK {
		t.Fatal("P7.13: Explained:", m, ids, explained, e)
	}
	for _, id := range ids {
		if explained, e := swap.Explained(m, without(ids, id)); !explained || e != api.OK {
			t.Fatal("P7.13: Explained:", m, ids, id, explained, e)
		}
	}
}
