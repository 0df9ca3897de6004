package room_test

import (
	"math/rand"
	"slices"
	"testing"

	"wringing/api"
	"wringing/room"
	"wringing/sharp"
	"wringing/swap"
)

func TestExampleOfTold(t *testing.T) {
	two, three := []api.Could{could(2, 984, 1011)}, []api.Could{could(3, 1099, 1101)}
	for _, x := range []struct {
		known int
		want  []api.Could
		e     api.Errno
	}{
		{4, nil, api.ErrNone}, {5, two, api.OK}, {8, two, api.OK}, {9, three, api.OK},
		{12, nil, api.ErrNone}, {19, nil, api.ErrNone}, {20, three, api.OK}, {api.MaxKnown, three, api.OK},
	} {
		if got, e := room.Told(example(), x.known, 2, 15); !slices.Equal(got, x.want) || e != x.e {
			t.Error("P8.4: Told:", x.known, got, e)
		}
	}
	for _, x := range []struct {
		known int
		want  []api.Name
		e     api.Errno
	}{
		{4, nil, api.ErrNone}, {9, nil, api.ErrNone}, {12, []api.Name{name(2, 2), name(2, 3)}, api.OK}, {20, nil, api.ErrNone},
	} {
		if got, e := room.Blame(example(), x.known); !slices.Equal(got, x.want) || e != x.e {
			t.Error("P8.6: Blame:", x.known, got, e)
		}
	}
}

func TestExampleOfJudge(t *testing.T) {
	for _, x := range []struct {
		known  int
		limits api.Span
		want   int
	}{
		{5, span(1000, 1200), api.ShOpen}, {9, span(1000, 1200), api.ShIn},
		{5, span(984, 1011), api.ShIn}, {5, span(985, 1011), api.ShOpen}, {5, span(984, 1010), api.ShOpen},
		{5, span(0, 983), api.ShOut}, {5, span(0, 984), api.ShOpen}, {5, span(1012, 1012), api.ShOut},
		{9, span(1000, 1098), api.ShOut}, {9, span(1100, 1100), api.ShOpen}, {9, span(leastInt, mostInt), api.ShIn},
	} {
		if got, e := room.Judge(example(), x.known, 2, 15, x.limits); got != x.want || e != api.OK {
			t.Error("P8.4: Judge:", x, got, e)
		}
	}
}

// TestJudgeOfSeveralWays is about labels that can be on gauges of different lengths.
func TestJudgeOfSeveralWays(t *testing.T) {
	// By the one way the gauge of the label 1 is from 98 to 102 units long, by the other one from 108 to 112.
	l := inBox(2, mix(3, 1, 2))
	for _, x := range []struct {
		limits api.Span
		want   int
	}{
		{span(98, 112), api.ShIn}, {span(98, 111), api.ShOpen}, {span(99, 112), api.ShOpen},
		{span(98, 102), api.ShOpen}, {span(108, 112), api.ShOpen}, {span(103, 107), api.ShOut},
		{span(90, 97), api.ShOut}, {span(113, 120), api.ShOut}, {span(102, 103), api.ShOpen}, {span(107, 108), api.ShOpen},
	} {
		if got, e := room.Judge(l, 1, 1, 5, x.limits); got != x.want || e != api.OK {
			t.Error("P8.4: Judge:", x, got, e)
		}
	}
	// One gauge can be 98 to 99, or 111 to 112 units long, by different ways: all between is out.
	l = slices.Concat(facts(1, 1, 1, gauge(1, 105, -7, 7), gauge(2, 98, 0, 1), gauge(3, 111, 0, 1), mix(3, 2, 3)), facts(1, 7, 2, cold(5, []int{1}, []int{2}, 0, 0)))
	if got, e := room.Told(l, 2, 1, 5); !slices.Equal(got, []api.Could{could(1, 98, 112)}) || e != api.OK {
		t.Error("P8.4: Told:", got, e)
	}
	for _, x := range []struct {
		limits api.Span
		want   int
	}{{span(100, 110), api.ShOut}, {span(99, 110), api.ShOpen}, {span(100, 111), api.ShOpen}, {span(98, 99), api.ShOpen}, {span(98, 112), api.ShIn}} {
		if got, e := room.Judge(l, 2, 1, 5, x.limits); got != x.want || e != api.OK {
			t.Error("P8.4: Judge:", x, got, e)
		}
	}
}

// judgeOf returns the verdict, by the words of the chapter, for a case for which Coulds returns OK.
func judgeOf(t *testing.T, m api.Mixed, label, day int, limits api.Span) int {
	t.Helper()
	ways, e := swap.All(m)
	in, out := 0, 0
	for _, way := range ways {
		b, f := swap.Translate(m, way)
		gauge, g := swap.Who(m, way, label, day)
		v, h := sharp.Judge(b, api.Node{Gauge: gauge, Day: day}, limits)
		if e != api.OK || f != api.OK || g != api.OK || h != api.OK {
			t.Fatal("P8.4: a way:", m, way, e, f, g, h)
		}
		switch v {
		case api.ShIn:
			in++
		case api.ShOut:
			out++
		}
	}
	switch len(ways) {
	case in:
		return api.ShIn
	case out:
		return api.ShOut
	}
	return api.ShOpen
}

// TestRandomTellings holds Told, Judge, Rests and Blame against the words of the chapter, at some times.
func TestRandomTellings(t *testing.T) {
	r := rand.New(rand.NewSource(82))
	verdicts, errors, rests, blamed := map[int]int{}, map[api.Errno]int{}, map[bool]int{}, 0
	for _, s := range scenes(110, 4, 2, 5, false) {
		l, last := written(r, s)
		for range 4 {
			known := last - r.Intn(last+1)*r.Intn(2)
			label, day := s.b.Gauges[r.Intn(len(s.b.Gauges))].ID, r.Intn(sceneDays)
			m, e := room.Gather(l, known)
			var want []api.Could
			if e == api.OK {
				want, e = swap.Coulds(m, label, day)
			}
			got, f := room.Told(l, known, label, day)
			if !slices.Equal(got, want) || e != f {
				t.Fatal("P8.4: Told:", l, known, label, day, got, f, want, e)
			}
			errors[e]++
			limits := span(36+r.Intn(9), 40)
			limits.Hi = limits.Lo + r.Intn(9)
			v, g := room.Judge(l, known, label, day, limits)
			if e != g || e == api.OK && v != judgeOf(t, m, label, day, limits) || e != api.OK && v != 0 {
				t.Fatal("P8.4: Judge:", l, known, label, day, limits, v, g)
			}
			verdicts[v]++
			n := nameOf(l[r.Intn(len(l))])
			other, h := room.Told(without(l, n), known, label, day)
			is, i := room.Rests(l, known, label, day, n)
			isKnown := slices.ContainsFunc(l, func(f api.Fact) bool { return nameOf(f) == n && f.Known <= known })
			if isKnown && (is != (e != h || !slices.Equal(got, other)) || i != api.OK) || !isKnown && (is || i != api.ErrNone) {
				t.Fatal("P8.5: Rests:", l, known, label, day, n, is, i)
			}
			rests[is]++
			checkBlame(t, l, known, &blamed)
		}
	}
	if verdicts[api.ShIn] < 20 || verdicts[api.ShOut] < 20 || verdicts[api.ShOpen] < 30 || len(errors) < 3 || rests[true] < 40 || blamed < 30 {
		t.Error("too few answers:", verdicts, errors, rests, blamed)
	}
}

// checkBlame holds Blame against Core.
func checkBlame(t *testing.T, l []api.Fact, known int, blamed *int) {
	t.Helper()
	m, e := room.Gather(l, known)
	var ids []int
	if e == api.OK {
		ids, e = swap.Core(m)
	}
	names, f := room.Blame(l, known)
	if e != f || len(names) != len(ids) {
		t.Fatal("P8.6: Blame:", l, known, names, f, ids, e)
	}
	for i, n := range names {
		if ids[i] != 100*n.Room+n.No {
			t.Fatal("P8.6: Blame:", l, known, names, ids)
		}
	}
	if e == api.OK {
		*blamed++
	}
}

func TestRests(t *testing.T) {
	l := example()
	for _, x := range []struct {
		known int
		n     api.Name
		want  bool
		e     api.Errno
	}{
		{9, name(2, 2), true, api.OK},
		{9, name(1, 5), false, api.OK},
		{9, name(1, 1), false, api.OK},
		{9, name(1, 2), true, api.OK}, // Without the gauge 1, the case is not valid.
		{9, name(2, 1), true, api.OK}, // Without the mix-up, nothing explains the case.
		{9, name(2, 3), false, api.ErrNone},
		{5, name(2, 2), false, api.ErrNone},
		{4, name(1, 1), false, api.ErrNone},
		{12, name(2, 3), true, api.OK},
		{12, name(1, 6), false, api.OK}, // There is no way without it, either.
		{19, name(2, 4), false, api.ErrNone},
		{20, name(2, 4), true, api.OK},
		{20, name(2, 3), false, api.OK}, // It is withdrawn.
		{20, name(3, 1), false, api.ErrNone},
		{20, name(0, 0), false, api.ErrNone},
	} {
		for _, l := range [][]api.Fact{l, slices.Concat(l, l)} {
			if got, e := room.Rests(l, x.known, 2, 15, x.n); got != x.want || e != x.e {
				t.Error("P8.5: Rests:", x, got, e)
			}
		}
	}
	// An error that stays is nothing else.
	if got, e := room.Rests(l, 9, 4, 15, name(2, 2)); got || e != api.OK {
		t.Error("P8.5: Rests of no label:", got, e)
	}
	if got, e := room.Rests(l, 9, 2, -1, name(2, 2)); got || e != api.OK {
		t.Error("P8.5: Rests on no day:", got, e)
	}
	if got, e := room.Rests(inBox(2, use(3, 1)), 1, 1, 1, name(1, 3)); !got || e != api.OK {
		t.Error("P8.5: Rests of a wrong use:", got, e)
	}
}

func TestQuarrel(t *testing.T) {
	box := inBox(3)
	seen := func(known int, about ...any) []api.Fact { return slices.Concat(box, facts(2, 1, known, about...)) }
	at := func(label, diff, most int) api.Compare { return cold(5, []int{label}, nil, diff, most) }
	mixed := seen(1, mix(4, 1, 2), at(3, 120, 0))
	for i, x := range []struct {
		a, b       []api.Fact
		known, day int
		want       []int
	}{
		{box, box, 1, 5, nil},
		{seen(1, at(1, 98, 0)), seen(1, at(1, 99, 0)), 1, 5, []int{1}},
		{seen(1, at(1, 98, 1)), seen(1, at(1, 99, 0)), 1, 5, nil},
		{seen(1, at(1, 98, 1)), seen(1, at(1, 100, 0)), 1, 5, []int{1}},
		{seen(1, at(1, 100, 0)), seen(1, at(1, 98, 1)), 1, 5, []int{1}},
		{seen(1, at(1, 98, 0), at(2, 109, 0), at(3, 118, 0)), seen(1, at(1, 99, 0), at(2, 109, 0), at(3, 119, 0)), 1, 5, []int{1, 3}},
		{seen(1, at(1, 98, 0)), seen(2, at(1, 99, 0)), 1, 5, nil}, // b learns it later.
		{seen(1, at(1, 98, 0)), seen(2, at(1, 99, 0)), 2, 5, []int{1}},
		{seen(1, at(1, 98, 0)), seen(1, at(1, 97, 0)), 1, 5, nil}, // b is not explained.
		{seen(1, at(1, 98, 0)), seen(1, at(1, 99, 0), use(4, 1)), 1, 5, nil},
		{seen(1, at(1, 98, 0), use(4, 1)), seen(1, at(1, 99, 0)), 1, 5, nil},
		{seen(1, at(1, 98, 0), gauge(9, 5, 0, 0)), seen(1, at(1, 99, 0)), 1, 5, []int{1}},
		{seen(1, gauge(9, 5, 0, 0)), seen(1, gauge(9, 6, 0, 0)), 1, 5, []int{9}},
		// The label 1 is on a gauge of 98 to 102 units, or on one of 108 to 112.
		{mixed, seen(1, gauge(1, 105, -2, 2)), 1, 5, []int{1}},
		{mixed, seen(1, gauge(1, 105, -3, 2)), 1, 5, nil},
		{mixed, seen(1, gauge(1, 105, -2, 3)), 1, 5, nil},
		{seen(1, gauge(1, 105, -2, 2)), mixed, 1, 5, []int{1}},
		{mixed, seen(1, gauge(1, 105, -2, 2)), 1, 4, []int{1}},
		{mixed, seen(1, gauge(2, 105, -2, 2)), 1, 5, []int{2}},
		// A gauge that is made later has no length yet.
		{seen(1, api.Gauge{ID: 8, Made: 6, Nominal: 3, Growth: rat(0, 1)}), seen(1, gauge(8, 4, 0, 0)), 1, 5, nil},
		{seen(1, api.Gauge{ID: 8, Made: 6, Nominal: 3, Growth: rat(0, 1)}), seen(1, gauge(8, 4, 0, 0)), 1, 6, []int{8}},
	} {
		if got, e := room.Quarrel(x.a, x.b, x.known, x.day); !slices.Equal(got, x.want) || e != api.OK {
			t.Error("P8.7: Quarrel:", i, got, e)
		}
		if got, e := room.Quarrel(x.b, x.a, x.known, x.day); !slices.Equal(got, x.want) || e != api.OK {
			t.Error("P8.7: Quarrel the other way round:", i, got, e)
		}
	}
}

// TestRandomQuarrels holds Quarrel against the words of the chapter.
func TestRandomQuarrels(t *testing.T) {
	r := rand.New(rand.NewSource(83))
	quarrels := 0
	for _, s := range scenes(100, 4, 2, 5, false) {
		l, last := written(r, s)
		parts := [2][]api.Fact{}
		for _, f := range l {
			for i := range parts {
				if f.Kind != api.FaCompare || r.Intn(2) == 0 {
					parts[i] = append(parts[i], f)
				}
			}
			if f.Kind == api.FaGauge {
				// Both rooms can have read something else on a gauge.
				last := &parts[0][len(parts[0])-1]
				last.Gauge.Nominal += 2 * (f.No % 3)
			}
		}
		for day := 1; day < sceneDays; day += 3 {
			var want []int
			for _, g := range s.b.Gauges {
				a, e := room.Told(parts[0], last, g.ID, day)
				b, f := room.Told(parts[1], last, g.ID, day)
				common := false
				for _, x := range a {
					for _, y := range b {
						for n := x.Len.Lo; n <= x.Len.Hi; n++ {
							common = common || y.Len.Lo <= n && n <= y.Len.Hi
						}
					}
				}
				if e == api.OK && f == api.OK && !common {
					want = append(want, g.ID)
				}
			}
			got, e := room.Quarrel(parts[0], parts[1], last, day)
			if !slices.Equal(got, want) || e != api.OK {
				t.Fatal("P8.7: Quarrel:", parts, last, day, got, want, e)
			}
			quarrels += len(got)
		}
	}
	if quarrels < 30 {
		t.Error("too few quarrels:", quarrels)
	}
}
