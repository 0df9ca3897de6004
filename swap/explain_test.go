package swap_test

import (
	"math/rand"
	"slices"
	"testing"

	"wringing/api"
	"wringing/compare"
	"wringing/sharp"
	"wringing/swap"
)

func TestExplainExamples(t *testing.T) {
	stay, moved := [][]int{{2, 3}}, [][]int{{3, 2}}
	three := mix(3, 1, 2, 3)
	for i, c := range []struct {
		m    api.Mixed
		want [][][]int
	}{
		{api.Mixed{}, [][][]int{nil}},
		{example(), [][][]int{stay, moved}},
		{example(eight()), [][][]int{moved}},
		{example(nine()), [][][]int{stay}},
		{example(eight(), nine()), nil},
		{example(ten()), nil},
		{box(3, three), [][][]int{{{1, 2, 3}}, {{1, 3, 2}}, {{2, 1, 3}}, {{3, 2, 1}}, {{2, 3, 1}}, {{3, 1, 2}}}},
		{shown(box(3, three), [3]int{1, 4, 111}), [][][]int{{{2, 1, 3}}, {{3, 1, 2}}}},
		{shown(box(3, three), [3]int{1, 4, 111}, [3]int{2, 4, 119}), [][][]int{{{3, 1, 2}}}},
		{shown(box(3, three), [3]int{1, 3, 111}), nil},
		{shown(box(3, three), [3]int{1, 3, 102}), waysOf(box(3, three))},
		{shown(box(3, three), [3]int{1, 4, 111}, [3]int{2, 4, 109}), nil},
		// The labels of each mix-up cancel those of the other one.
		{shown(box(2, mix(3, 1, 2), mix(5, 1, 2)), [3]int{1, 6, 110}), [][][]int{{{1, 2}, {2, 1}}, {{2, 1}, {1, 2}}}},
		{shown(box(2, mix(3, 1, 2), mix(5, 1, 2)), [3]int{1, 6, 101}), [][][]int{{{1, 2}, {1, 2}}, {{2, 1}, {2, 1}}}},
		{shown(box(2, mix(3, 1, 2), mix(5, 1, 2)), [3]int{1, 5, 110}, [3]int{1, 6, 101}), [][][]int{{{2, 1}, {2, 1}}}},
	} {
		all, e := swap.All(c.m)
		if !sameWays(all, c.want) || e != api.OK {
			t.Error("P7.4: All:", i, all, e)
		}
		wantLeast, wantE := [][]int(nil), api.ErrNone
		if len(c.want) > 0 {
			wantLeast, wantE = c.want[0], api.OK
		}
		if least, e := swap.Least(c.m); !sameLists(least, wantLeast) || e != wantE {
			t.Error("P7.4: Least:", i, least, e)
		}
	}
}

// TestWearOfLabels has a gauge that was used under another label, and one that was away under another label.
func TestWearOfLabels(t *testing.T) {
	m := box(2, mix(3, 1, 2))
	m.Book.Gauges[0].Wear, m.Book.Gauges[1].Nominal = 8, 100
	m.Book.Uses = []api.Use{use(2, 5)}
	m.Book.Compares = []api.Compare{cold(1, 6, []int{2}, nil, 91, 0)}
	if all, e := swap.All(m); !sameWays(all, [][][]int{{{2, 1}}}) || e != api.OK {
		t.Error("P7.4: All:", all, e)
	}
	m.Book.Uses, m.Book.Loans = nil, []api.Loan{loan(2, 5, 6, 4)}
	m.Book.Compares = []api.Compare{cold(1, 7, []int{1}, nil, 91, 0)}
	if all, e := swap.All(m); len(all) != 0 || e != api.OK {
		t.Error("P7.4: All:", all, e)
	}
	m.Book.Compares = []api.Compare{cold(1, 7, []int{2}, nil, 91, 0)}
	if all, e := swap.All(m); !sameWays(all, [][][]int{{{1, 2}}, {{2, 1}}}) || e != api.OK {
		t.Error("P7.4: All:", all, e)
	}
}

func TestExplaining(t *testing.T) {
	count := map[bool]int{}
	for _, m := range cases(300, false) {
		want := explaining(t, m)
		all, e := swap.All(m)
		if !sameWays(all, want) || e != api.OK {
			t.Fatal("P7.4: All:", m, all, e)
		}
		least, e := swap.Least(m)
		if len(want) == 0 && (len(least) != 0 || e != api.ErrNone) || len(want) > 0 && (!sameLists(least, want[0]) || e != api.OK) {
			t.Fatal("P7.4: Least:", m, least, e)
		}
		count[len(want) > 0]++
		for _, way := range waysOf(m) {
			is := slices.ContainsFunc(want, func(other [][]int) bool { return sameLists(way, other) })
			if explains, e := swap.Explains(m, way); explains != is || e != api.OK {
				t.Fatal("P7.4: Explains:", m, way, explains, e)
			}
			b, _ := swap.Translate(m, way)
			if explained, e := swap.Explained(api.Mixed{Book: b}, idsOf(m)); explained != is || e != api.OK {
				t.Fatal("P7.18: Explained:", m, way, explained, e)
			}
		}
	}
	if count[true] < 50 || count[false] < 50 {
		t.Error("too few cases that are explained, or are not:", count)
	}
}

func TestCouldsExamples(t *testing.T) {
	three := box(3, mix(3, 1, 2, 3))
	// Both ways by which the label 1 is on the gauge 2 leave it other lengths.
	twice := changed(box(3, mix(3, 1, 2, 3)), func(m *api.Mixed) {
		m.Book.Gauges[2].Nominal = 100
		m.Book.Compares = []api.Compare{cold(1, 5, []int{1}, []int{2}, 10, 0), cold(2, 5, []int{3}, nil, 99, 0)}
		m.Book.Gauges[0].Tol = span(-1, 0)
	})
	for i, c := range []struct {
		m          api.Mixed
		label, day int
		want       []api.Could
		e          api.Errno
	}{
		{example(), 2, 15, []api.Could{could(2, 984, 1011), could(3, 1099, 1101)}, api.OK},
		{example(), 2, 12, []api.Could{could(2, 984, 1011)}, api.OK},
		{example(), 1, 15, []api.Could{could(1, 994, 1005)}, api.OK},
		{example(eight()), 2, 15, []api.Could{could(3, 1099, 1101)}, api.OK},
		{example(eight()), 3, 15, []api.Could{could(2, 987, 1009)}, api.OK},
		{example(eight()), 2, 10, []api.Could{could(2, 987, 1009)}, api.OK},
		{example(eight()), 2, api.MaxDay, []api.Could{could(3, 1099, 1101)}, api.OK},
		{example(eight()), 1, 0, []api.Could{could(1, 998, 1003)}, api.OK},
		{example(eight(), nine()), 2, 15, nil, api.ErrNone},
		{example(ten()), 1, 16, nil, api.ErrNone},
		{three, 2, 3, []api.Could{could(2, 108, 112)}, api.OK},
		{three, 2, 4, []api.Could{could(1, 98, 102), could(2, 108, 112), could(3, 118, 122)}, api.OK},
		{shown(three, [3]int{1, 4, 111}), 1, 9, []api.Could{could(2, 111, 111)}, api.OK},
		{shown(three, [3]int{1, 4, 111}), 3, 9, []api.Could{could(1, 98, 102), could(3, 118, 122)}, api.OK},
		{shown(three, [3]int{1, 4, 111}), 2, 2, []api.Could{could(2, 111, 111)}, api.OK},
		{twice, 1, 5, []api.Could{could(2, 108, 112)}, api.OK},
		{twice, 2, 5, []api.Could{could(1, 99, 100), could(3, 98, 102)}, api.OK},
		{twice, 3, 6, []api.Could{could(1, 99, 99), could(3, 99, 99)}, api.OK},
		{example(), 2, api.MaxDay + 1, nil, api.ErrArg},
		{example(), 2, -1, nil, api.ErrArg},
		{example(), 4, 15, nil, api.ErrNone},
		{example(), 4, -1, nil, api.ErrArg},
	} {
		if coulds, e := swap.Coulds(c.m, c.label, c.day); !slices.Equal(coulds, c.want) || e != c.e {
			t.Error("P7.5: Coulds:", i, coulds, e)
		}
	}
}

// TestCouldsLooks asks for days of which the book has no node, where looks are at their limits, or gauges are not made.
func TestCouldsLooks(t *testing.T) {
	full := func(more ...api.Compare) api.Mixed {
		return changed(example(more...), func(m *api.Mixed) { m.Book.Looks = slices.Repeat([]api.Node{node(3, 5)}, api.MaxLooks) })
	}
	late := func(more ...api.Compare) api.Mixed {
		return changed(example(more...), func(m *api.Mixed) { m.Book.Gauges[2].Made = 4 })
	}
	for i, c := range []struct {
		m          api.Mixed
		label, day int
		want       []api.Could
		e          api.Errno
	}{
		{full(), 2, 15, nil, api.ErrLimit},
		{full(), 2, 10, []api.Could{could(2, 984, 1011)}, api.OK},
		{full(), 3, 5, []api.Could{could(3, 1099, 1101)}, api.OK},
		{full(), 3, 0, []api.Could{could(3, 1099, 1101)}, api.OK},
		{full(), 3, 1, nil, api.ErrLimit},
		{full(eight()), 2, 15, []api.Could{could(3, 1099, 1101)}, api.OK},
		{full(eight()), 3, 15, nil, api.ErrLimit},
		{full(eight(), nine()), 3, 14, nil, api.ErrNone},
		{full(), 3, api.MaxDay + 1, nil, api.ErrArg},
		{full(), 4, 1, nil, api.ErrNone},
		{late(), 3, 3, nil, api.ErrState},
		{late(), 3, 4, []api.Could{could(3, 1099, 1101)}, api.OK},
		{late(), 2, 3, []api.Could{could(2, 984, 1011)}, api.OK},
		{late(eight(), nine()), 3, 3, nil, api.ErrNone},
		{filled(), 5, 100, nil, api.ErrLimit},
	} {
		if coulds, e := swap.Coulds(c.m, c.label, c.day); !slices.Equal(coulds, c.want) || e != c.e {
			t.Error("P7.5: Coulds:", i, coulds, e)
		}
	}
	// One look less, but all nodes.
	m := filled()
	m.Book.Looks = m.Book.Looks[:api.MaxLooks-1]
	if coulds, e := swap.Coulds(m, 5, 100); len(coulds) != 0 || e != api.ErrLimit {
		t.Error("P7.5: Coulds:", coulds, e)
	}
	// And one node less.
	m.Book.Looks = m.Book.Looks[:6]
	if coulds, e := swap.Coulds(m, 5, 100); len(coulds) != 6 || e != api.OK {
		t.Error("P7.5: Coulds:", coulds, e)
	}
}

// couldsOf returns what Coulds returns, by the words of the chapter.
func couldsOf(t *testing.T, m api.Mixed, label, day int) ([]api.Could, api.Errno) {
	t.Helper()
	ways := explaining(t, m)
	if len(ways) == 0 {
		return nil, api.ErrNone
	}
	var coulds []api.Could
	for _, g := range m.Book.Gauges {
		c := could(g.ID, api.Free, -api.Free)
		for _, way := range ways {
			if whoBears(m, way, label, day) != g.ID {
				continue
			}
			interval, e := sharp.Interval(translationOf(m, way), node(g.ID, day))
			if e != api.OK {
				return nil, e
			}
			c.Len = span(min(c.Len.Lo, interval.Lo), max(c.Len.Hi, interval.Hi))
		}
		if c.Len.Lo <= c.Len.Hi {
			coulds = append(coulds, c)
		}
	}
	return coulds, api.OK
}

func TestCouldsOfCases(t *testing.T) {
	r := rand.New(rand.NewSource(72))
	several := 0
	for _, m := range cases(300, false) {
		for range 4 {
			if len(m.Book.Gauges) == 0 {
				break
			}
			label, day := m.Book.Gauges[r.Intn(len(m.Book.Gauges))].ID, r.Intn(sceneDays+1)
			want, wantE := couldsOf(t, m, label, day)
			coulds, e := swap.Coulds(m, label, day)
			if !slices.Equal(coulds, want) || e != wantE {
				t.Fatal("P7.5: Coulds:", m, label, day, coulds, e, want, wantE)
			}
			if len(coulds) > 1 {
				several++
			}
			for _, c := range coulds {
				mustReachEnds(t, m, label, day, c)
			}
		}
	}
	if several < 100 {
		t.Error("too few labels that can be on several gauges:", several)
	}
}

// mustReachEnds finds ways and lengths in which a gauge that can bear a label has its least and its greatest length.
func mustReachEnds(t *testing.T, m api.Mixed, label, day int, c api.Could) {
	t.Helper()
	looked := changed(m, func(m *api.Mixed) { m.Book.Looks = append(m.Book.Looks, node(label, day)) })
	all, e := swap.All(looked)
	if e != api.OK {
		t.Fatal("P7.4: All:", looked, e)
	}
	reached := map[bool]bool{}
	for _, way := range all {
		gauge, _ := swap.Who(looked, way, label, day)
		if gauge != c.Gauge {
			continue
		}
		b, _ := swap.Translate(looked, way)
		place, e := compare.Index(b, node(gauge, day))
		if e != api.OK {
			t.Fatal("P7.16: no node:", looked, way, e)
		}
		for _, upper := range []bool{false, true} {
			lengths, e := sharp.History(b, node(gauge, day), upper)
			if e != api.OK || swap.CheckWay(looked, way, lengths) != api.OK {
				t.Fatal("P7.16: CheckWay:", looked, way, lengths, e)
			}
			length := lengths[place-1]
			if length < c.Len.Lo || length > c.Len.Hi {
				t.Fatal("P7.16: a length beyond:", looked, way, lengths, c)
			}
			reached[upper] = reached[upper] || upper && length == c.Len.Hi || !upper && length == c.Len.Lo
		}
	}
	if !reached[false] || !reached[true] {
		t.Fatal("P7.16: an end that is not reached:", looked, c)
	}
}

func TestSureExamples(t *testing.T) {
	three := box(4, mix(3, 1, 2, 3))
	for i, c := range []struct {
		m    api.Mixed
		want []int
		e    api.Errno
	}{
		{api.Mixed{}, nil, api.OK},
		{box(3), []int{1, 2, 3}, api.OK},
		{example(), []int{1}, api.OK},
		{example(eight()), []int{1}, api.OK},
		{example(nine()), []int{1, 2, 3}, api.OK},
		{example(eight(), nine()), nil, api.ErrNone},
		{three, []int{4}, api.OK},
		{shown(three, [3]int{1, 4, 111}), []int{4}, api.OK},
		{shown(three, [3]int{1, 4, 111}, [3]int{2, 4, 99}), []int{3, 4}, api.OK},
		{box(2, mix(3, 1, 2)), nil, api.OK},
		{box(2, mix(api.MaxDay-1, 1, 2)), nil, api.OK},
		{shown(box(2, mix(3, 1, 2)), [3]int{1, 4, 111}), nil, api.OK},
		// Both mix-ups together move nothing.
		{shown(box(3, mix(3, 1, 2), mix(5, 1, 2)), [3]int{1, 4, 111}, [3]int{1, 6, 99}), []int{1, 2, 3}, api.OK},
	} {
		if sure, e := swap.Sure(c.m); !slices.Equal(sure, c.want) || e != c.e {
			t.Error("P7.5: Sure:", i, sure, e)
		}
	}
}

func TestSureOfCases(t *testing.T) {
	for _, m := range cases(300, false) {
		ways := explaining(t, m)
		wantE := api.OK
		if len(ways) == 0 {
			wantE = api.ErrNone
		}
		var want []int
		for _, g := range m.Book.Gauges {
			moved := func(way [][]int) bool { return whoBears(m, way, g.ID, api.MaxDay) != g.ID }
			if wantE == api.OK && !slices.ContainsFunc(ways, moved) {
				want = append(want, g.ID)
			}
		}
		if sure, e := swap.Sure(m); !slices.Equal(sure, want) || e != wantE {
			t.Fatal("P7.5, P7.15: Sure:", m, sure, e)
		}
	}
}
