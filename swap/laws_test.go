package swap_test

import (
	"math/rand"
	"slices"
	"testing"

	"wringing/api"
	"wringing/compare"
	"wringing/swap"
)

// TestTruthIsExplained writes down what truly was seen: the way in which labels truly were exchanged has to explain it, and whoever truly bears a label is among those who can.
func TestTruthIsExplained(t *testing.T) {
	moved := 0
	for _, s := range scenes(200, 5, 4, 8, true) {
		if explains, e := swap.Explains(s.m, s.way); !explains || e != api.OK {
			t.Fatal("P7.14: Explains:", s.m, s.way, explains, e)
		}
		b, e := swap.Translate(s.m, s.way)
		if !sameBook(b, s.b) || e != api.OK {
			t.Fatal("P7.14: Translate:", s.m, s.way, b, s.b, e)
		}
		if e := swap.CheckWay(s.m, s.way, s.truth(t, b)); e != api.OK {
			t.Fatal("P7.14: CheckWay:", s.m, s.way, e)
		}
		for _, way := range waysOf(s.m) {
			b, _ := swap.Translate(s.m, way)
			if e := compare.Check(b); e != api.OK {
				t.Fatal("P7.14: a translation:", s.m, way, b, e)
			}
		}
		for _, g := range s.m.Book.Gauges {
			for _, day := range []int{g.Made, 3, sceneDays - 1} {
				gauge := whoBears(s.m, s.way, g.ID, day)
				if gauge != g.ID {
					moved++
				}
				length := s.length(gauge, day)
				has := func(c api.Could) bool { return c.Gauge == gauge && c.Len.Lo <= length && length <= c.Len.Hi }
				if coulds, e := swap.Coulds(s.m, g.ID, day); !slices.ContainsFunc(coulds, has) || e != api.OK {
					t.Fatal("P7.14, P7.15: Coulds:", s.m, g.ID, day, coulds, e)
				}
			}
		}
		if sure, e := swap.Sure(s.m); e != api.OK || slices.ContainsFunc(sure, func(id int) bool { return whoBears(s.m, s.way, id, api.MaxDay) != id }) {
			t.Fatal("P7.15: Sure:", s.m, s.way, sure, e)
		}
		for _, g := range s.m.Book.Gauges {
			if withdrawn, e := swap.Withdrawn(s.m, g.ID); withdrawn || e != api.OK {
				t.Fatal("P7.6: Withdrawn:", s.m, g.ID, withdrawn, e)
			}
		}
	}
	if moved < 150 {
		t.Error("too few labels that truly moved:", moved)
	}
}

// TestEachWayIsAmongCoulds holds the greatest lengths of each way that explains a case against Coulds.
func TestEachWayIsAmongCoulds(t *testing.T) {
	r := rand.New(rand.NewSource(77))
	for _, m := range cases(200, true) {
		for range 3 {
			if len(m.Book.Gauges) == 0 {
				break
			}
			label, day := m.Book.Gauges[r.Intn(len(m.Book.Gauges))].ID, 1+r.Intn(sceneDays)
			coulds, e := swap.Coulds(m, label, day)
			if e != api.OK {
				continue
			}
			var gauges []int
			for _, way := range explaining(t, m) {
				gauges = append(gauges, whoBears(m, way, label, day))
			}
			slices.Sort(gauges)
			if !slices.EqualFunc(coulds, slices.Compact(gauges), func(c api.Could, gauge int) bool { return c.Gauge == gauge }) {
				t.Fatal("P7.15: Coulds:", m, label, day, coulds, gauges)
			}
		}
	}
}

func TestFewerAreExplained(t *testing.T) {
	r := rand.New(rand.NewSource(78))
	for _, m := range cases(300, false) {
		ids := idsOf(m)
		var before bool
		for i := 0; ; i++ {
			explained, e := swap.Explained(m, ids)
			if e != api.OK || before && !explained {
				t.Fatal("P7.13: Explained:", m, ids, explained, e)
			}
			before = explained
			if len(ids) == 0 {
				break
			}
			ids = without(ids, ids[r.Intn(len(ids))])
		}
		if !before {
			t.Fatal("P7.13: Explained without comparisons:", m)
		}
	}
}

func TestMoreMixUps(t *testing.T) {
	r := rand.New(rand.NewSource(79))
	added, changed := 0, 0
	for _, s := range scenes(800, 3, 1, 5, false) {
		m, day := s.m, r.Intn(3)
		if len(m.Mixes) > 0 {
			day = m.Mixes[0].Day + 1 + r.Intn(2)
		}
		x := mix(day)
		for _, g := range m.Book.Gauges {
			if len(x.Labels) < 3 && r.Intn(4) > 0 {
				x.Labels = append(x.Labels, g.ID)
			}
		}
		more, e := swap.With(m, x)
		if e != api.OK {
			continue
		}
		added++
		_, before := swap.Least(m)
		_, after := swap.Least(more)
		if before == api.OK && after != api.OK {
			t.Fatal("P7.13: With:", m, x, before, after)
		}
		if before != after {
			changed++
		}
	}
	if added < 100 || changed < 5 {
		t.Error("too few mix-ups:", added, changed)
	}
}

// isQuiet reports whether nothing is used, compared, looked at or away on a day, nor away on the next one.
func isQuiet(b api.Book, day int) bool {
	return !slices.ContainsFunc(b.Uses, func(u api.Use) bool { return u.Day == day }) &&
		!slices.ContainsFunc(b.Compares, func(c api.Compare) bool { return c.Day == day }) &&
		!slices.ContainsFunc(b.Looks, func(n api.Node) bool { return n.Day == day }) &&
		!slices.ContainsFunc(b.Loans, func(l api.Loan) bool { return l.Days.Lo <= day+1 && day <= l.Days.Hi })
}

func TestMixedUpTwice(t *testing.T) {
	count := map[api.Errno]int{}
	l := []api.Mixed{example(), example(eight()), example(eight(), nine())}
	for _, s := range scenes(900, 3, 1, 4, false) {
		l = append(l, s.m)
	}
	for _, m := range l {
		if len(m.Mixes) != 1 || !isQuiet(m.Book, m.Mixes[0].Day+1) {
			continue
		}
		twice, e := swap.With(m, mix(m.Mixes[0].Day+1, m.Mixes[0].Labels...))
		if e != api.OK {
			t.Fatal("P7.17: With:", m, e)
		}
		_, once := swap.Least(m)
		if _, again := swap.Least(twice); again != once {
			t.Fatal("P7.17: Least:", m, once, again)
		}
		count[once]++
		for _, g := range m.Book.Gauges {
			for day := m.Mixes[0].Day + 2; day < sceneDays+1; day += 2 {
				want, wantE := swap.Coulds(m, g.ID, day)
				if coulds, e := swap.Coulds(twice, g.ID, day); !slices.Equal(coulds, want) || e != wantE {
					t.Fatal("P7.17: Coulds:", m, g.ID, day, coulds, want, e, wantE)
				}
			}
		}
	}
	if count[api.OK] < 50 || count[api.ErrNone] < 20 {
		t.Error("too few cases:", count)
	}
}
