package room_test

import (
	"math/rand"
	"reflect"
	"slices"
	"testing"

	"wringing/api"
	"wringing/room"
	"wringing/swap"
)

// answers are the results of all functions that tell what follows, but for those that are left out.
func answers(g given, out ...string) []any {
	var all []any
	for _, c := range calls() {
		if !slices.Contains(out, c.name) {
			x, e := c.run(g)
			all = append(all, c.name, x, e)
		}
	}
	return all
}

// asked are arguments about facts of a scene.
func asked(r *rand.Rand, s scene, l []api.Fact, last int) given {
	g := given{l: l, known: last - r.Intn(last+1)*r.Intn(2), day: 1 + r.Intn(sceneDays-1), n: nameOf(l[r.Intn(len(l))])}
	g.label = s.b.Gauges[r.Intn(len(s.b.Gauges))].ID
	g.limits = span(40, 40+r.Intn(9))
	for range r.Intn(3) {
		c := s.randomCompare(r, true)
		c.Error = 0
		g.plan = append(g.plan, c)
	}
	return g
}

// TestNoHindsight changes the order of a list, repeats facts, and adds some that become known later.
func TestNoHindsight(t *testing.T) {
	r := rand.New(rand.NewSource(87))
	for _, s := range scenes(100, 4, 2, 4, false) {
		l, last := written(r, s)
		g := asked(r, s, l, last)
		g.other = l
		want := answers(g)
		h := g
		h.l = slices.Concat(l, l[:r.Intn(len(l))])
		for i, what := range []any{span(1, 1), s.b.Gauges[0], use(1, 1), s.randomCompare(r, false), name(1, 1), name(2, 1), name(9, 9)} {
			if f := fact(5, i+1, g.known+1+r.Intn(3), what); room.CheckFact(f) == api.OK {
				h.l = append(h.l, f)
			}
		}
		r.Shuffle(len(h.l), func(i, j int) { h.l[i], h.l[j] = h.l[j], h.l[i] })
		if got := answers(h); !reflect.DeepEqual(got, want) {
			t.Fatal("P8.14:", g, h, got, want)
		}
	}
}

// TestWithdrawn withdraws a fact: what follows is what follows without it.
func TestWithdrawn(t *testing.T) {
	r := rand.New(rand.NewSource(88))
	withdrawn := 0
	for _, s := range scenes(100, 4, 2, 4, false) {
		l, last := written(r, s)
		g := asked(r, s, l, last)
		n := nameOf(l[r.Intn(len(l))])
		at := g.known - r.Intn(2)
		h := g
		g.l = append(slices.Clone(l), fact(6, 1, max(at, 0), n))
		h.l = without(l, n)
		isWithdrawal := slices.ContainsFunc(l, func(f api.Fact) bool { return nameOf(f) == n && f.Kind == api.FaWithdraw })
		if isWithdrawal {
			h.l = l
		}
		out := []string{"Standing", "Rests", "Quarrel"}
		got, want := answers(g, out...), answers(h, out...)
		if !reflect.DeepEqual(got, want) {
			t.Fatal("P8.15:", g, n, got, want)
		}
		before := answers(given{l: l, known: g.known, label: g.label, day: g.day, limits: g.limits, plan: g.plan}, out...)
		if !reflect.DeepEqual(got, before) {
			withdrawn++
		}
		g.known, h.l = max(at, 0)-1, l
		h.known = g.known
		if got, want := answers(g, out...), answers(h, out...); !reflect.DeepEqual(got, want) {
			t.Fatal("P8.15: ahead of the withdrawal:", g, n, got, want)
		}
	}
	if withdrawn < 20 {
		t.Error("too few facts that matter:", withdrawn)
	}
}

// halves are facts of two rooms, each of which has only some of the comparisons.
func halves(r *rand.Rand, l []api.Fact) (a, b []api.Fact) {
	for _, f := range l {
		if f.Kind != api.FaCompare || f.No%2 == 0 {
			a = append(a, f)
		}
		if f.Kind != api.FaCompare || f.No%2 == 1 || r.Intn(4) == 0 {
			b = append(b, f)
		}
	}
	return a, b
}

// TestOneTruth writes down what truly was seen, in two rooms.
func TestOneTruth(t *testing.T) {
	r := rand.New(rand.NewSource(89))
	moved, verdicts := 0, map[int]int{}
	for _, s := range scenes(60, 5, 3, 6, true) {
		l, last := written(r, s)
		a, b := halves(r, l)
		for _, g := range s.b.Gauges {
			day := max(g.Made, r.Intn(sceneDays))
			gauge := s.bearer(g.ID, day)
			length := s.length(gauge, day)
			if gauge != g.ID {
				moved++
			}
			limits := span(length-r.Intn(3), length+r.Intn(9))
			if r.Intn(2) == 0 {
				limits = span(length+1, length+r.Intn(9)+1)
			}
			isIn := limits.Lo <= length
			for _, l := range [][]api.Fact{a, b, l} {
				coulds, e := room.Told(l, last, g.ID, day)
				has := func(c api.Could) bool { return c.Gauge == gauge && c.Len.Lo <= length && length <= c.Len.Hi }
				if !slices.ContainsFunc(coulds, has) || e != api.OK {
					t.Fatal("P8.16: Told:", l, last, g.ID, day, coulds, e, gauge, length)
				}
				v, e := room.Judge(l, last, g.ID, day, limits)
				if v == api.ShIn && !isIn || v == api.ShOut && isIn || e != api.OK {
					t.Fatal("P8.16: Judge:", l, last, g.ID, day, limits, v, e, length)
				}
				verdicts[v]++
			}
			if labels, e := room.Quarrel(a, b, last, day); len(labels) > 0 || e != api.OK {
				t.Fatal("P8.16: Quarrel:", a, b, last, day, labels, e)
			}
		}
	}
	if moved < 25 || len(verdicts) < 3 {
		t.Error("too few answers:", moved, verdicts)
	}
}

// TestQuarrelsShowErrors holds quarrels against what explains the facts of both rooms.
func TestQuarrelsShowErrors(t *testing.T) {
	r := rand.New(rand.NewSource(90))
	quarrels := 0
	for _, s := range scenes(400, 3, 2, 8, false) {
		l, last := written(r, s)
		a, b := halves(r, l)
		labels, e := room.Quarrel(a, b, last, 1+r.Intn(sceneDays-1))
		if e != api.OK {
			t.Fatal("P8.7: Quarrel:", e)
		}
		if len(labels) == 0 {
			continue
		}
		quarrels++
		both, e := room.Merge(a, b)
		if e != api.OK || !sameFacts(both, sorted(slices.CompactFunc(sorted(l), same))) {
			t.Fatal("P8.2: Merge:", a, b, both, e)
		}
		if _, e := swap.Least(mustGather(t, both, last)); e != api.ErrNone {
			t.Fatal("P8.16: what rooms quarrel about is explained:", a, b, last, labels, e)
		}
	}
	if quarrels < 5 {
		t.Error("too few quarrels:", quarrels)
	}
}

// TestSettled lets each result of what Settle returns be shown, as a fact: no verdict is open behind it.
func TestSettled(t *testing.T) {
	r := rand.New(rand.NewSource(91))
	settled, shown := 0, 0
	for _, s := range scenes(350, 4, 2, 4, true) {
		l, last := written(r, s)
		g := asked(r, s, l, last)
		list, e := room.Settle(l, last, g.label, g.day, g.limits, g.plan)
		if e != api.OK || len(list) != 1 {
			continue
		}
		settled++
		for diff := -60; diff <= 60; diff++ {
			c := g.plan[list[0]]
			c.Diff = diff
			m := append(slices.Clone(l), fact(6, 1, last, c))
			v, e := room.Judge(m, last, g.label, g.day, g.limits)
			if e == api.OK && v == api.ShOpen {
				t.Fatal("P8.17: Settle:", l, last, g, list, diff)
			}
			if e == api.OK {
				shown++
			}
		}
	}
	if settled < 8 || shown < 40 {
		t.Error("too few lists that settle:", settled, shown)
	}
}

// TestGreatestCase asks about facts that are as many as can be, with the most uses, loans, comparisons and ways.
func TestGreatestCase(t *testing.T) {
	var about []any
	for i := range api.MaxGauges {
		g := gauge(i+1, 100, -9, 9)
		g.Wear = i % 3
		about = append(about, g)
	}
	about = append(about, mix(50, 1, 2, 3, 4), mix(90, 2, 5, 7))
	for i := range api.MaxUses {
		about = append(about, use(1+i%api.MaxGauges, 5+i))
	}
	for i := range api.MaxLoans {
		about = append(about, loan(1+i, 60+i, 70+i, 2))
	}
	for i := range api.MaxCompares - 2 {
		about = append(about, cold(100+i, []int{1 + i%2, 6}, []int{6}, 100, 500))
	}
	var l []api.Fact
	for i, what := range about {
		l = append(l, fact(1+i/api.MaxNo, 1+i%api.MaxNo, 1, what))
	}
	l = append(l, l[:api.MaxFacts-len(l)]...)
	want := []api.Could{could(1, 69, 109), could(2, 65, 109), could(3, 61, 109), could(4, 69, 109), could(5, 66, 109), could(7, 69, 109)}
	if got, e := room.Told(l, 1, 2, 150); !slices.Equal(got, want) || e != api.OK {
		t.Error("P8.4: Told:", got, e)
	}
	plan := []api.Compare{alone(140, 8, 0), alone(140, 10, 0), alone(140, 11, 0)}
	if got, e := room.Settle(l, 1, 11, 140, span(60, 80), plan); !slices.Equal(got, []int{2}) || e != api.OK {
		t.Error("P8.8: Settle:", got, e)
	}
}
