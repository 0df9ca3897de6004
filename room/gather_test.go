package room_test

import (
	"math/rand"
	"slices"
	"testing"

	"wringing/api"
	"wringing/room"
	"wringing/swap"
)

// numbers are the IDs of the comparisons of a case.
func numbers(m api.Mixed) []int {
	var ids []int
	for _, c := range m.Book.Compares {
		ids = append(ids, c.ID)
	}
	return ids
}

func TestExampleOfGather(t *testing.T) {
	l := example()
	for _, x := range []struct{ known, gauges, mixes int }{{0, 0, 0}, {4, 0, 0}, {5, 3, 0}, {8, 3, 0}, {9, 3, 1}, {12, 3, 1}, {19, 3, 1}, {20, 3, 1}, {api.MaxKnown, 3, 1}} {
		var want []int
		switch {
		case x.known >= 20 || x.known >= 9 && x.known < 12:
			want = []int{106, 202}
		case x.known >= 12:
			want = []int{106, 202, 203}
		case x.known >= 5:
			want = []int{106}
		}
		m, e := room.Gather(l, x.known)
		if !slices.Equal(numbers(m), want) || len(m.Book.Gauges) != x.gauges || len(m.Mixes) != x.mixes || e != api.OK {
			t.Error("P8.3: Gather:", x.known, m, e)
		}
	}
	if m, e := room.Gather(l, 4); !sameCase(m, api.Mixed{}) || e != api.OK {
		t.Error("P8.3: Gather of nothing:", m, e)
	}
	m := mustGather(t, l, 9)
	text, e := swap.Print(m)
	want := "film 0 2\ngauge 1 0 1000 -5 5 1 10 1\ngauge 2 0 1000 -50 50 1 4 0\ngauge 3 0 1100 -1 1 0 1 0\nuse 1 10\n" +
		"compare 106 10 -20 1 100 200 a 1 b 2\ncompare 202 15 100 1 0 0 a 2 b 1\nmix 12 2 3\n"
	if text != want || e != api.OK {
		t.Error("P8.3: Gather:", text, e)
	}
}

func TestExampleOfStanding(t *testing.T) {
	l := example()
	all := namesOf(l)
	for _, x := range []struct {
		known int
		want  []api.Name
	}{
		{4, nil}, {5, all[:6]}, {9, all[:8]}, {12, all[:9]}, {19, all[:9]},
		{20, slices.Concat(all[:8], all[9:])},
	} {
		for _, l := range [][]api.Fact{l, slices.Concat(l[4:], l)} {
			if got, e := room.Standing(l, x.known); !slices.Equal(got, x.want) || e != api.OK {
				t.Error("P8.3: Standing:", x.known, got, e)
			}
		}
	}
}

func TestWithdrawals(t *testing.T) {
	// The fact 1 is withdrawn by two facts; a withdrawal of a withdrawal, and one of nothing, do nothing.
	l := slices.Concat(
		facts(1, 1, 1, use(1, 1)),
		facts(2, 1, 4, name(1, 1), name(3, 7)),
		facts(3, 1, 2, name(2, 1), name(2, 2)),
		facts(4, 1, 3, name(1, 1), name(3, 1)),
	)
	for _, x := range []struct {
		known int
		want  []api.Name
	}{
		{1, []api.Name{name(1, 1)}},
		{2, []api.Name{name(1, 1), name(3, 1), name(3, 2)}},
		{3, []api.Name{name(3, 1), name(3, 2), name(4, 1), name(4, 2)}},
		{4, []api.Name{name(2, 1), name(2, 2), name(3, 1), name(3, 2), name(4, 1), name(4, 2)}},
	} {
		if got, e := room.Standing(l, x.known); !slices.Equal(got, x.want) || e != api.OK {
			t.Error("P8.3: Standing:", x.known, got, e)
		}
	}
	// What is withdrawn can be written after its withdrawal.
	early := slices.Concat(facts(1, 1, 1, name(2, 1)), facts(2, 1, 9, use(1, 1)))
	if got, e := room.Standing(early, 9); !slices.Equal(got, []api.Name{name(1, 1)}) || e != api.OK {
		t.Error("P8.3: Standing:", got, e)
	}
}

func TestTheLatest(t *testing.T) {
	g, h, i := gauge(7, 100, 0, 0), gauge(7, 200, 0, 0), gauge(7, 300, 0, 0)
	three := inBox(3)
	for _, x := range []struct {
		l    []api.Fact
		want func(m *api.Mixed)
	}{
		// The time decides, and then the name: the room, and then the number.
		{slices.Concat(facts(1, 1, 5, g), facts(2, 1, 4, h)), func(m *api.Mixed) { m.Book.Gauges = []api.Gauge{g} }},
		{slices.Concat(facts(1, 1, 4, g), facts(2, 1, 5, h)), func(m *api.Mixed) { m.Book.Gauges = []api.Gauge{h} }},
		{slices.Concat(facts(1, 1, 5, g), facts(2, 1, 5, h)), func(m *api.Mixed) { m.Book.Gauges = []api.Gauge{h} }},
		{slices.Concat(facts(2, 1, 5, h), facts(1, 2, 5, g)), func(m *api.Mixed) { m.Book.Gauges = []api.Gauge{h} }},
		{facts(1, 1, 5, g, h), func(m *api.Mixed) { m.Book.Gauges = []api.Gauge{h} }},
		{slices.Concat(facts(1, 1, 5, g, h, i), facts(2, 1, 6, name(1, 3))), func(m *api.Mixed) { m.Book.Gauges = []api.Gauge{h} }},
		{facts(1, 1, 5, span(1, 2), span(0, 7)), func(m *api.Mixed) { m.Book.Film = span(0, 7) }},
		{slices.Concat(facts(1, 1, 5, span(1, 2)), facts(2, 1, 4, span(0, 7))), func(m *api.Mixed) { m.Book.Film = span(1, 2) }},
		{slices.Concat(facts(1, 1, 5, span(1, 2)), facts(2, 1, 6, name(1, 1))), func(m *api.Mixed) {}},
		{slices.Concat(three, facts(3, 1, 5, mix(4, 1, 2), mix(3, 1, 3), mix(4, 2, 3))), func(m *api.Mixed) {
			m.Book.Gauges = []api.Gauge{three[0].Gauge, three[1].Gauge, three[2].Gauge}
			m.Mixes = []api.Mix{mix(3, 1, 3), mix(4, 2, 3)}
		}},
		{slices.Concat(three, facts(3, 1, 5, mix(4, 1, 2)), facts(2, 1, 5, mix(4, 2, 3)), facts(4, 1, 4, mix(4, 1, 3))), func(m *api.Mixed) {
			m.Book.Gauges = []api.Gauge{three[0].Gauge, three[1].Gauge, three[2].Gauge}
			m.Mixes = []api.Mix{mix(4, 1, 2)}
		}},
	} {
		var want api.Mixed
		x.want(&want)
		for range 2 {
			if m, e := room.Gather(x.l, 9); !sameCase(m, want) || e != api.OK {
				t.Error("P8.3: Gather of the latest ones:", x.l, m, e)
			}
			slices.Reverse(x.l)
		}
	}
}

func TestOrderOfCase(t *testing.T) {
	one := func(day int) api.Compare { return cold(day, []int{1}, nil, 100, 2) }
	l := slices.Concat(
		facts(2, 1, 1, gauge(2, 110, 0, 0), one(5), use(2, 9), loan(2, 6, 7, 1), loan(1, 3, 3, 2), one(2)),
		facts(1, 1, 2, one(5), gauge(1, 100, -2, 2), use(1, 9), use(2, 9), use(2, 8), loan(1, 6, 6, 3)),
		facts(3, 1, 2, one(2), loan(2, 3, 3, 4), loan(1, 1, 1, 5)),
	)
	m := mustGather(t, l, 2)
	if want := []int{206, 301, 101, 202}; !slices.Equal(numbers(m), want) {
		t.Error("P8.3: Gather: comparisons:", numbers(m), want)
	}
	if want := []api.Use{use(2, 8), use(1, 9), use(2, 9)}; !slices.Equal(m.Book.Uses, want) {
		t.Error("P8.3: Gather: uses:", m.Book.Uses)
	}
	if want := []api.Loan{loan(1, 1, 1, 5), loan(1, 3, 3, 2), loan(2, 3, 3, 4), loan(1, 6, 6, 3), loan(2, 6, 7, 1)}; !slices.Equal(m.Book.Loans, want) {
		t.Error("P8.3: Gather: loans:", m.Book.Loans)
	}
	// The first days of loans decide, not the last ones.
	loans := inBox(3, loan(2, 4, 5, 0), loan(3, 3, 4, 0), loan(1, 3, 9, 0))
	if m := mustGather(t, loans, 1); !slices.Equal(m.Book.Loans, []api.Loan{loan(1, 3, 9, 0), loan(3, 3, 4, 0), loan(2, 4, 5, 0)}) {
		t.Error("P8.3: Gather: loans:", m.Book.Loans)
	}
	// As many comparisons as can be, of three days, in the order of their names on each day.
	var all []any
	var want [3][]int
	for i := range api.MaxCompares {
		all = append(all, one(5+i*i%3))
		want[i*i%3] = append(want[i*i%3], 102+i)
	}
	if m := mustGather(t, inBox(1, all...), 1); !slices.Equal(numbers(m), slices.Concat(want[:]...)) {
		t.Error("P8.3: Gather: comparisons:", numbers(m), want)
	}
	if m.Book.Gauges[0].ID != 1 || m.Book.Gauges[1].ID != 2 || len(m.Book.Looks) > 0 {
		t.Error("P8.3: Gather: gauges:", m.Book)
	}
}

// TestRandomCases holds Standing and Gather against the words of the chapter, at each time.
func TestRandomCases(t *testing.T) {
	r := rand.New(rand.NewSource(81))
	valid, wrong := 0, 0
	for _, s := range scenes(150, 4, 2, 5, false) {
		l, last := written(r, s)
		for known := range last + 2 {
			var names []api.Name
			for _, f := range l {
				if stands(l, f, known) {
					names = append(names, nameOf(f))
				}
			}
			slices.SortFunc(names, compareNames)
			if got, e := room.Standing(l, known); !slices.Equal(got, slices.Compact(names)) || e != api.OK {
				t.Fatal("P8.3: Standing:", l, known, got, e)
			}
			want := caseOf(l, known)
			f := swap.Check(want)
			m, e := room.Gather(l, known)
			if e != f || e == api.OK && !sameCase(m, want) || e != api.OK && !isNothing(m) {
				t.Fatal("P8.3: Gather:", l, known, m, e, want, f)
			}
			if e == api.OK {
				valid++
			} else {
				wrong++
			}
		}
		m := mustGather(t, l, last)
		if m.Book.Film != s.m.Book.Film || !slices.Equal(m.Book.Gauges, s.m.Book.Gauges) || len(m.Book.Compares) != len(s.m.Book.Compares) || len(m.Mixes) != len(s.m.Mixes) {
			t.Fatal("P8.3: Gather of a scene:", l, m, s.m)
		}
	}
	if valid < 500 || wrong < 200 {
		t.Error("too few cases:", valid, wrong)
	}
}

func TestErrorsOfCases(t *testing.T) {
	for i, x := range []struct {
		l []api.Fact
		e api.Errno
	}{
		{inBox(2, use(3, 1)), api.ErrNone},
		{inBox(2, loan(1, 3, 5, 1), loan(1, 5, 6, 1)), api.ErrClash},
		{inBox(2, cold(1, []int{1, 2}, nil, 0, 0)), api.ErrArg},
		{inBox(2, mix(1, 1, 3)), api.ErrNone},
		{inBox(2, loan(1, 3, 5, 1), mix(2, 1, 2)), api.ErrClash},
		{inBox(13), api.ErrLimit},
		{inBox(3, mix(1, 1, 2), mix(2, 1, 2), mix(3, 1, 2), mix(4, 1, 2), mix(5, 1, 2)), api.ErrLimit},
	} {
		if m, e := room.Gather(x.l, 1); e != x.e || !isNothing(m) {
			t.Error("P8.3: Gather:", i, m, e)
		}
		if m, e := room.Gather(x.l, 0); e != api.OK || !isNothing(m) {
			t.Error("P8.3: Gather ahead of its time:", i, m, e)
		}
	}
}
