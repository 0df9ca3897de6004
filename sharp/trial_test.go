package sharp_test

import (
	"math/rand"
	"testing"

	"wringing/api"
	"wringing/compare"
	"wringing/sharp"
)

// exact is a comparison of the example book without error, at the temperature of reference.
func exact(day int, a, b []int) api.Compare { return cold(8, day, a, b, 0, 0) }

func TestWorstExamples(t *testing.T) {
	big := changed(plain(1), func(b *api.Book) { b.Gauges[0].Nominal, b.Gauges[0].Tol = api.MaxLen, span(-api.MaxTol, api.MaxTol) })
	// The gauge 3 lies from 91 to 107, and 4 is 2 units longer; 5 is less known.
	three := changed(plain(5), func(b *api.Book) {
		b.Gauges[4].Tol = span(-90, 90)
		b.Compares = []api.Compare{cold(1, 5, []int{4}, []int{3}, 2, 0)}
	})
	for i, c := range []struct {
		b    api.Book
		n    api.Node
		c    api.Compare
		want int
	}{
		{example(), node(2, 10), exact(10, []int{1}, []int{2}), 10},
		{example(), node(2, 10), exact(10, nil, []int{2}), 0},
		{example(), node(2, 10), cold(8, 10, nil, []int{2}, 0, 3), 6},
		{example(), node(2, 10), cold(8, 10, nil, []int{2}, 77777, 13), 26},
		{example(), node(2, 10), cold(8, 10, nil, []int{2}, 0, 14), 27},
		{example(), node(2, 10), cold(8, 10, nil, []int{2}, 0, api.MaxTol), 27},
		{example(), node(2, 10), hot(exact(10, nil, []int{2}), 0, 4), 1},
		{example(), node(2, 10), hot(exact(10, nil, []int{2}), 1, 4), 0},
		{example(), node(2, 10), hot(exact(10, []int{1}, []int{2}), 100, 200), 25},
		{example(), node(1, 10), exact(10, []int{1}, []int{2}), 10},
		{example(), node(1, 30), exact(10, []int{1}, nil), 31},
		{example(), node(1, 30), exact(30, []int{1}, nil), 0},
		{example(), node(1, 25), exact(30, []int{1}, nil), 15},
		{example(), node(2, 0), exact(2, []int{1}, nil), 17},
		{big, node(1, 9), exact(3, []int{1}, nil), 0},
		{big, node(1, 9), cold(8, 3, nil, []int{1}, 0, 1000), 2000},
		{big, node(1, 9), cold(8, 3, []int{1}, nil, 0, api.MaxTol), 2 * api.MaxTol},
		{three, node(3, 0), exact(5, []int{4}, nil), 0},
		{three, node(3, 0), exact(5, []int{5}, []int{4}), 16},
		{three, node(5, 0), exact(5, []int{5}, []int{4}), 16},
		{three, node(5, 0), exact(5, []int{1}, []int{2}), 180},
		{three, node(1, 0), exact(5, []int{1}, []int{2}), 18},
	} {
		if worst, e := sharp.Worst(c.b, c.n, c.c); worst != c.want || e != api.OK {
			t.Error("P6.10: Worst:", i, worst, e)
		}
	}
}

func TestBestExamples(t *testing.T) {
	a, b, c, d := cold(8, 10, nil, []int{2}, 0, 5), cold(8, 10, nil, []int{2}, 0, 3), cold(9, 10, []int{1}, []int{2}, 0, 0), cold(8, 3, []int{2}, nil, 0, 3)
	for i, x := range []struct {
		l    []api.Compare
		want int
	}{
		{[]api.Compare{a}, 0},
		{[]api.Compare{a, b, c}, 1},
		{[]api.Compare{c, b, a}, 1},
		{[]api.Compare{c, a}, 0},
		{[]api.Compare{a, d, b}, 1},
		{[]api.Compare{a, b, d}, 1},
		{[]api.Compare{b, b, b}, 0},
		{[]api.Compare{a, a, a, a, a, c, a, a, a, a, a, a, a, a, a, a, a, a, a, b}, 19},
	} {
		if best, e := sharp.Best(example(), node(2, 10), x.l); best != x.want || e != api.OK {
			t.Error("P6.10: Best:", i, best, e)
		}
	}
}

func TestSettlesExamples(t *testing.T) {
	alone := func(most int) api.Compare { return cold(8, 10, nil, []int{2}, 0, most) }
	for i, x := range []struct {
		limits api.Span
		c      api.Compare
		want   bool
	}{
		{span(900, 1100), exact(10, []int{1}, []int{2}), true},
		{span(900, 1100), alone(api.MaxTol), true},
		{span(1012, 1100), alone(api.MaxTol), true},
		{span(900, 983), alone(api.MaxTol), true},
		{span(990, 1010), alone(0), true},
		{span(1000, 1000), alone(0), true},
		{span(990, 1010), alone(1), false},
		{span(984, 1011), alone(1), true},
		{span(985, 1011), alone(1), false},
		{span(985, 1011), alone(0), true},
		{span(984, 1010), alone(1), false},
		{span(984, 1010), alone(0), true},
		{span(1011, 1011), alone(0), true},
		{span(1011, 1011), alone(1), false},
		{span(990, 1010), exact(10, []int{1}, []int{2}), false},
		{span(leastInt, mostInt), alone(7), true},
		{span(leastInt, leastInt), alone(7), true},
		{span(mostInt, mostInt), alone(7), true},
		{span(mostInt-1, mostInt), alone(7), true},
		{span(leastInt, leastInt+1), alone(7), true},
		{span(leastInt, 984), alone(7), false},
		{span(leastInt, 1010), alone(7), false},
		{span(leastInt, 1011), alone(7), true},
		{span(984, mostInt), alone(7), true},
		{span(985, mostInt), alone(7), false},
		{span(1011, mostInt), alone(7), false},
		{span(1012, mostInt), alone(7), true},
		{span(leastInt, 983), alone(7), true},
		{span(leastInt, 1000), alone(0), true},
		{span(1000, mostInt), alone(0), true},
	} {
		if settles, e := sharp.Settles(example(), node(2, 10), x.limits, x.c); settles != x.want || e != api.OK {
			t.Error("P6.11: Settles:", i, settles, e)
		}
	}
}

// TestResultsBeyondDiffs has a comparison all results of which are greater than a Diff can be, or almost.
func TestResultsBeyondDiffs(t *testing.T) {
	b := changed(plain(1), func(b *api.Book) { b.Gauges[0].Nominal, b.Gauges[0].Tol = api.MaxLen, span(-1, 900) })
	for _, c := range []api.Compare{cold(8, 3, []int{1}, nil, 0, 50), cold(8, 3, nil, []int{1}, 0, 50)} {
		if worst, e := sharp.Worst(b, node(1, 9), c); worst != 100 || e != api.OK {
			t.Error("P6.10: Worst:", worst, e)
		}
		for limits, want := range map[api.Span]bool{
			span(api.MaxLen-1, api.MaxLen): false, span(api.MaxLen+700, api.MaxLen+701): false, span(api.MaxLen+901, api.MaxLen+999): true, span(api.MaxLen-9, api.MaxLen+900): true,
		} {
			if settles, e := sharp.Settles(b, node(1, 9), limits, c); settles != want || e != api.OK {
				t.Error("P6.11: Settles:", limits, settles, e)
			}
		}
	}
}

// TestTrials tries all results of further comparisons.
func TestTrials(t *testing.T) {
	r := rand.New(rand.NewSource(65))
	tried, settled, open, narrowed := 0, 0, 0, 0
	for _, s := range scenes(500, 4, 4) {
		c, ok := s.randomCompare(r, 77)
		if !ok || !isPossible(t, s.b) {
			continue
		}
		n := randomNode(r, s.b)
		before := mustInterval(t, s.b, n)
		widths, intervals := allResults(t, s.b, n, c)
		tried++
		worst, e := sharp.Worst(s.b, n, c)
		if worst != widths.span.Hi || e != api.OK || worst > before.Hi-before.Lo {
			t.Fatal("P6.10, P6.16: Worst:", s.b, n, c, worst, widths, e)
		}
		if worst < before.Hi-before.Lo {
			narrowed++
		}
		c.Diff = 1 << 60
		if again, e := sharp.Worst(s.b, n, c); again != worst || e != api.OK {
			t.Fatal("P6.10: Worst:", s.b, n, c, worst, again, e)
		}
		for range 6 {
			lo := before.Lo + r.Intn(before.Hi-before.Lo+5) - 2
			limits := span(lo, lo+r.Intn(before.Hi-before.Lo+3))
			want := true
			for _, i := range intervals {
				if within(limits, i.Lo) != within(limits, i.Hi) || i.Lo < limits.Lo && i.Hi > limits.Hi {
					want = false
				}
			}
			if settles, e := sharp.Settles(s.b, n, limits, c); settles != want || e != api.OK {
				t.Fatal("P6.11, P6.16: Settles:", s.b, n, limits, c, settles, want, e)
			}
			if want {
				settled++
			} else {
				open++
			}
		}
	}
	if tried < 250 || settled < 300 || open < 300 || narrowed < 60 {
		t.Error("too few comparisons:", tried, settled, open, narrowed)
	}
}

// allResults returns the widths and the intervals of a node for all results of a comparison.
func allResults(t *testing.T, b api.Book, n api.Node, c api.Compare) (widths ends, intervals []api.Span) {
	t.Helper()
	asked := b
	if _, e := compare.Index(b, n); e != api.OK {
		asked = lookedAt(b, n)
	}
	results, e := compare.Predict(asked, c)
	if e != api.OK {
		t.Fatal("P5.10: Predict:", b, c, e)
	}
	for c.Diff = results.Lo; c.Diff <= results.Hi; c.Diff++ {
		more, e := compare.With(asked, c)
		if e != api.OK {
			t.Fatal("P5.2: With:", b, c, e)
		}
		interval := mustInterval(t, more, n)
		intervals = append(intervals, interval)
		widths.add(interval.Hi - interval.Lo)
	}
	return widths, intervals
}

// TestBestByWorst asks for the best of many comparisons.
func TestBestByWorst(t *testing.T) {
	r := rand.New(rand.NewSource(66))
	tried := 0
	for _, s := range scenes(200, 4, 4) {
		if !isPossible(t, s.b) {
			continue
		}
		n := randomNode(r, s.b)
		var l []api.Compare
		want, least := 0, mostInt
		for range 1 + r.Intn(api.MaxChoice) {
			c, ok := s.randomCompare(r, 77)
			if !ok {
				continue
			}
			worst, e := sharp.Worst(s.b, n, c)
			if e != api.OK {
				t.Fatal("P6.10: Worst:", s.b, n, c, e)
			}
			if worst < least {
				want, least = len(l), worst
			}
			l = append(l, c)
		}
		if len(l) == 0 {
			continue
		}
		tried++
		if best, e := sharp.Best(s.b, n, l); best != want || e != api.OK {
			t.Fatal("P6.10: Best:", s.b, n, l, best, want, e)
		}
	}
	if tried < 100 {
		t.Error("too few books:", tried)
	}
}

// TestTrialsOfWideBooks has lengths that are known so little that not all results can be tried.
func TestTrialsOfWideBooks(t *testing.T) {
	b := changed(plain(2), func(b *api.Book) {
		b.Gauges[0].Nominal, b.Gauges[0].Tol = api.MaxLen/2, span(-api.MaxTol, api.MaxTol)
		b.Gauges[1].Nominal, b.Gauges[1].Tol = api.MaxLen/3, span(-7, 1_000_000)
		b.Compares = []api.Compare{cold(1, 4, []int{1}, []int{2}, api.MaxLen/6, 12345)}
	})
	for i, x := range []struct {
		n    api.Node
		c    api.Compare
		want int
	}{
		{node(1, 9), exact(3, []int{1}, nil), 0},
		{node(2, 9), exact(3, []int{1}, nil), 2 * 12345},
		{node(1, 9), exact(3, []int{2}, nil), 2 * 12345},
		{node(1, 9), cold(8, 3, []int{2}, nil, 0, 100), 2*12345 + 200},
		{node(1, 9), exact(3, []int{1}, []int{2}), 1_000_007},
		{node(1, 9), cold(8, 3, []int{2}, nil, 0, api.MaxTol), 1_000_007 + 2*12345},
	} {
		if worst, e := sharp.Worst(b, x.n, x.c); worst != x.want || e != api.OK {
			t.Error("P6.10: Worst:", i, worst, e)
		}
	}
}
