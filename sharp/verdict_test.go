package sharp_test

import (
	"math/rand"
	"slices"
	"testing"

	"wringing/api"
	"wringing/compare"
	"wringing/sharp"
)

func TestJudgeExamples(t *testing.T) {
	for i, c := range []struct {
		n      api.Node
		limits api.Span
		want   int
	}{
		{node(2, 0), span(980, 1020), api.ShIn},
		{node(2, 0), span(990, 1010), api.ShOpen},
		{node(2, 0), span(1012, 1100), api.ShOut},
		{node(2, 0), span(984, 1011), api.ShIn},
		{node(2, 0), span(985, 1011), api.ShOpen},
		{node(2, 0), span(984, 1010), api.ShOpen},
		{node(2, 0), span(1011, 1100), api.ShOpen},
		{node(2, 0), span(0, 984), api.ShOpen},
		{node(2, 0), span(0, 983), api.ShOut},
		{node(2, 0), span(1000, 1000), api.ShOpen},
		{node(2, 0), span(leastInt, mostInt), api.ShIn},
		{node(2, 0), span(leastInt, leastInt), api.ShOut},
		{node(2, 0), span(mostInt, mostInt), api.ShOut},
		{node(2, 0), span(leastInt, 984), api.ShOpen},
		{node(2, 0), span(1011, mostInt), api.ShOpen},
		{node(1, 30), span(964, 1005), api.ShIn},
		{node(1, 30), span(965, 1005), api.ShOpen},
		{node(1, 29), span(967, 1005), api.ShIn},
		{node(1, 29), span(900, 966), api.ShOut},
	} {
		if verdict, e := sharp.Judge(example(), c.n, c.limits); verdict != c.want || e != api.OK {
			t.Error("P6.6: Judge:", i, verdict, e)
		}
		checkWitness(t, example(), c.n, c.limits)
	}
	exact := changed(plain(1), func(b *api.Book) { b.Gauges[0].Tol = span(0, 0) })
	for limits, want := range map[api.Span]int{span(100, 100): api.ShIn, span(99, 99): api.ShOut, span(101, 101): api.ShOut, span(0, 200): api.ShIn, span(0, 0): api.ShOut} {
		if verdict, e := sharp.Judge(exact, node(1, 0), limits); verdict != want || e != api.OK {
			t.Error("P6.6: Judge:", limits, verdict, e)
		}
		checkWitness(t, exact, node(1, 0), limits)
	}
}

// checkWitness expects witnesses exactly for what the verdict says can be.
func checkWitness(t *testing.T, b api.Book, n api.Node, limits api.Span) {
	t.Helper()
	verdict, e := sharp.Judge(b, n, limits)
	if e != api.OK {
		t.Fatal("P6.6: Judge:", b, n, limits, e)
	}
	more := b
	if !slices.Contains(mustNodes(t, b), n) {
		more = lookedAt(b, n)
	}
	place := slices.Index(mustNodes(t, more), n)
	for _, in := range []bool{true, false} {
		lengths, e := sharp.Witness(b, n, limits, in)
		if verdict == api.ShOut && in || verdict == api.ShIn && !in {
			if len(lengths) != 0 || e != api.ErrNone {
				t.Fatal("P6.6: Witness:", b, n, limits, in, lengths, e)
			}
			continue
		}
		if e != api.OK || within(limits, lengths[place]) != in {
			t.Fatal("P6.6: Witness:", b, n, limits, in, lengths, e)
		}
		if fits, e := compare.Fits(more, lengths); !fits || e != api.OK {
			t.Fatal("P6.6: Witness:", b, n, limits, in, lengths, e)
		}
	}
}

// TestJudgeByHistories asks for limits near all histories of small books.
func TestJudgeByHistories(t *testing.T) {
	r := rand.New(rand.NewSource(62))
	seen := map[int]int{}
	for _, s := range scenes(250, 3, 5) {
		n := randomNode(r, s.b)
		b := lookedAt(s.b, n)
		all, ok := histories(t, b)
		if !ok || len(all) == 0 {
			continue
		}
		place := slices.Index(mustNodes(t, b), n)
		for range 12 {
			near := all[r.Intn(len(all))][place] + r.Intn(9) - 4
			limits := span(near, near+r.Intn(8))
			in := 0
			for _, h := range all {
				if within(limits, h[place]) {
					in++
				}
			}
			want := api.ShOpen
			if in == 0 {
				want = api.ShOut
			} else if in == len(all) {
				want = api.ShIn
			}
			seen[want]++
			if verdict, e := sharp.Judge(b, n, limits); verdict != want || e != api.OK {
				t.Fatal("P6.6: Judge:", b, n, limits, verdict, want, e)
			}
			checkWitness(t, s.b, n, limits)
		}
	}
	if len(seen) != 3 || seen[api.ShIn] < 100 || seen[api.ShOut] < 100 || seen[api.ShOpen] < 100 {
		t.Error("too few verdicts:", seen)
	}
}

// TestMoreIsKnown adds comparisons that are true, and expects that nothing becomes less known.
func TestMoreIsKnown(t *testing.T) {
	r := rand.New(rand.NewSource(63))
	decided := 0
	for _, s := range scenes(250, 3, 4) {
		c, ok := s.randomCompare(r, 77)
		if !ok || !isPossible(t, s.b) {
			continue
		}
		more, e := compare.With(s.b, c)
		if e != api.OK || !isPossible(t, more) {
			continue
		}
		for range 4 {
			n := randomNode(r, s.b)
			before, after := mustInterval(t, s.b, n), mustInterval(t, more, n)
			if after.Lo < before.Lo || after.Hi > before.Hi {
				t.Fatal("P6.16: Interval:", more, n, before, after)
			}
			limits := span(before.Lo+r.Intn(4)-2, before.Hi+r.Intn(4)-2)
			if limits.Lo > limits.Hi {
				continue
			}
			first, e := sharp.Judge(s.b, n, limits)
			second, f := sharp.Judge(more, n, limits)
			if e != api.OK || f != api.OK || first != api.ShOpen && second != first {
				t.Fatal("P6.16: Judge:", more, n, limits, first, second)
			}
			if first != second {
				decided++
			}
		}
	}
	if decided < 10 {
		t.Error("too few verdicts are decided:", decided)
	}
}
