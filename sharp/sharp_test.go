package sharp_test

import (
	"math/rand"
	"slices"
	"testing"

	"wringing/api"
	"wringing/compare"
	"wringing/sharp"
)

func TestIntervalExamples(t *testing.T) {
	for i, c := range []struct {
		b    api.Book
		n    api.Node
		want api.Span
	}{
		{example(), node(1, 10), span(995, 1005)},
		{example(), node(2, 10), span(984, 1011)},
		{example(), node(1, 11), span(994, 1005)},
		{example(), node(1, 30), span(964, 1005)},
		{example(), node(1, 0), span(995, 1005)},
		{example(), node(1, 3), span(995, 1005)},
		{example(), node(2, 0), span(984, 1011)},
		{example(), node(2, api.MaxDay), span(984, 1011)},
		{example(), node(1, 21), span(991, 1005)},
		{changed(example(), func(b *api.Book) { b.Compares = nil }), node(2, 0), span(950, 1050)},
		{changed(example(), func(b *api.Book) { b.Gauges[1].Tol = span(-50, -14) }), node(1, 10), span(995, 997)},
		{changed(example(), func(b *api.Book) { b.Gauges[1].Tol = span(-50, -16) }), node(1, 30), span(964, 995)},
		{changed(example(), func(b *api.Book) { b.Gauges[0].Tol = span(0, 0) }), node(2, 5), span(989, 1006)},
		{changed(plain(1), func(b *api.Book) { b.Gauges[0].Nominal = api.MaxLen; b.Gauges[0].Tol = span(-api.MaxTol, api.MaxTol) }), node(1, 5), span(api.MaxLen-api.MaxTol, api.MaxLen+api.MaxTol)},
		{changed(plain(1), func(b *api.Book) {
			b.Gauges[0].Nominal, b.Gauges[0].Tol = 1, span(-api.MaxTol, -api.MaxTol)
			b.Loans = []api.Loan{loan(1, 0, api.MaxDay, api.MaxWear)}
		}), node(1, api.MaxDay), span(1-api.MaxTol-api.MaxDay*api.MaxWear, 1-api.MaxTol)},
		{filled(), node(2, 0), span(91, 109)},
		{filled(), node(1, 139), span(69, 109)},
	} {
		if interval, e := sharp.Interval(c.b, c.n); interval != c.want || e != api.OK {
			t.Error("P6.1: Interval:", i, interval, e)
		}
	}
}

func TestIntervalsExamples(t *testing.T) {
	for i, c := range []struct {
		b    api.Book
		want []api.Span
	}{
		{api.Book{}, nil},
		{example(), []api.Span{span(995, 1005), span(995, 1005), span(984, 1011), span(984, 1011)}},
		{lookedAt(example(), node(1, 30), node(1, 11), node(2, 10)), []api.Span{span(995, 1005), span(995, 1005), span(994, 1005), span(964, 1005), span(984, 1011), span(984, 1011)}},
	} {
		if spans, e := sharp.Intervals(c.b); !slices.Equal(spans, c.want) || e != api.OK {
			t.Error("P6.1: Intervals:", i, spans, e)
		}
	}
	spans, e := sharp.Intervals(contradiction())
	if len(spans) != 0 || e != api.ErrClash {
		t.Error("P6.1: Intervals:", spans, e)
	}
	if spans, e := sharp.Intervals(filled()); len(spans) != api.MaxNodes-1 || e != api.OK {
		t.Error("P6.1: Intervals:", len(spans), e)
	}
}

func TestBetweenExamples(t *testing.T) {
	for i, c := range []struct {
		m, n api.Node
		want api.Span
	}{
		{node(1, 10), node(2, 10), span(-6, 11)},
		{node(2, 10), node(1, 10), span(-11, 6)},
		{node(1, 10), node(1, 10), span(0, 0)},
		{node(1, 25), node(1, 25), span(0, 0)},
		{node(1, 10), node(1, 11), span(0, 1)},
		{node(1, 11), node(1, 10), span(-1, 0)},
		{node(1, 30), node(1, 20), span(-30, 0)},
		{node(1, 30), node(2, 40), span(-37, 11)},
		{node(2, 3), node(1, 11), span(-11, 7)},
	} {
		if span, e := sharp.Between(example(), c.m, c.n); span != c.want || e != api.OK {
			t.Error("P6.2: Between:", i, span, e)
		}
	}
}

// fourGauges is a book of four gauges and films of 3 to 5, where 1 and 2, and 3 and 4, hang together.
func fourGauges() api.Book {
	return changed(plain(4), func(b *api.Book) {
		b.Film = span(3, 5)
		b.Compares = []api.Compare{cold(1, 7, []int{1}, []int{2}, 4, 1), cold(2, 7, []int{3}, []int{4}, -2, 0)}
	})
}

func TestPileExamples(t *testing.T) {
	for i, c := range []struct {
		b    api.Book
		day  int
		ids  []int
		want api.Span
	}{
		{example(), 10, []int{1, 2}, span(1979, 2018)},
		{example(), 10, []int{2}, span(984, 1011)},
		{example(), 25, []int{1, 2}, span(979+984, 1005+1011+2)},
		{fourGauges(), 7, []int{1}, span(94, 109)},
		{fourGauges(), 7, []int{1, 3}, span(94+91+3, 109+107+5)},
		{fourGauges(), 7, []int{1, 2, 3}, span(94+91+91+6, 109+106+107+10)},
		{fourGauges(), 0, []int{1, 2, 3, 4}, span(94+91+91+93+9, 109+106+107+109+15)},
		{plain(6), 20, []int{1, 2, 3, 4, 5, 6}, span(6*91, 6*109)},
		{plain(2), api.MaxDay, []int{1, 2}, span(2*91, 2*109)},
	} {
		if span, e := sharp.Pile(c.b, c.day, c.ids); span != c.want || e != api.OK {
			t.Error("P6.3: Pile:", i, span, e)
		}
	}
}

func TestDifferExamples(t *testing.T) {
	for i, c := range []struct {
		b    api.Book
		day  int
		x, y []int
		want api.Span
	}{
		{example(), 10, []int{1}, []int{2}, span(-6, 11)},
		{example(), 10, []int{2}, []int{1}, span(-11, 6)},
		{example(), 10, []int{1, 2}, nil, span(1979, 2018)},
		{example(), 10, nil, []int{1, 2}, span(-2018, -1979)},
		{example(), 10, nil, []int{1}, span(-1005, -995)},
		{fourGauges(), 7, []int{1}, []int{2}, span(3, 5)},
		{fourGauges(), 7, []int{1}, []int{2, 3}, span(3-107-5, 5-91-3)},
		{fourGauges(), 7, []int{1, 3}, []int{2, 4}, span(3-2-2, 5-2+2)},
		{fourGauges(), 7, []int{1, 4}, []int{2, 3}, span(3+2-2, 5+2+2)},
		{fourGauges(), 7, []int{1, 2}, []int{3, 4}, span(94+91-107-109-2, 109+106-91-93+2)},
		{fourGauges(), 7, []int{1, 3, 4}, []int{2}, span(3+91+93+6, 5+107+109+10)},
		{plain(6), 0, []int{1, 2, 3}, []int{4, 5, 6}, span(-54, 54)},
		{plain(6), 0, []int{2, 4, 6}, nil, span(273, 327)},
		{plain(2), api.MaxDay, []int{2}, []int{1}, span(-18, 18)},
	} {
		if span, e := sharp.Differ(c.b, c.day, c.x, c.y); span != c.want || e != api.OK {
			t.Error("P6.4: Differ:", i, span, e)
		}
	}
}

// TestDifferMatches has piles of three gauges each, each of which is compared with several of the others.
func TestDifferMatches(t *testing.T) {
	r := rand.New(rand.NewSource(64))
	for range 60 {
		b := plain(6)
		b.Film = span(1, 2)
		for i := range b.Gauges {
			b.Gauges[i].Nominal, b.Gauges[i].Tol = 10, span(-1, r.Intn(2))
		}
		for i := range 6 {
			x, y := 1+r.Intn(3), 4+r.Intn(3)
			b.Compares = append(b.Compares, cold(i+1, 0, []int{x}, []int{y}, r.Intn(3)-1, r.Intn(2)))
		}
		all, _ := histories(t, b)
		if len(all) == 0 {
			continue
		}
		checkDiffer(t, b, 0, []int{1, 2, 3}, []int{4, 5, 6}, all)
		checkDiffer(t, b, 0, []int{4, 5}, []int{1, 2, 3}, all)
		checkDiffer(t, b, 0, []int{1, 3}, []int{4, 6}, all)
		checkDiffer(t, b, 0, []int{2}, []int{1, 3, 4}, all)
		checkDiffer(t, b, 0, []int{1, 4, 6}, []int{2, 3, 5}, all)
	}
}

// checkDiffer holds Differ against all histories of a book with the nodes of the piles.
func checkDiffer(t *testing.T, b api.Book, day int, x, y []int, all [][]int) {
	t.Helper()
	var lengths ends
	for _, h := range all {
		lengths.add(sumAt(t, b, day, x, h) - sumAt(t, b, day, y, h))
	}
	filmsX, filmsY := max(len(x), 1)-1, max(len(y), 1)-1
	want := span(lengths.span.Lo+filmsX*b.Film.Lo-filmsY*b.Film.Hi, lengths.span.Hi+filmsX*b.Film.Hi-filmsY*b.Film.Lo)
	if span, e := sharp.Differ(b, day, x, y); span != want || e != api.OK {
		t.Fatal("P6.4: Differ:", b, day, x, y, span, want, e)
	}
	if span, e := sharp.Differ(b, day, y, x); span.Lo != -want.Hi || span.Hi != -want.Lo || e != api.OK {
		t.Fatal("P6.17: Differ:", b, day, x, y, span, want, e)
	}
}

func sumAt(t *testing.T, b api.Book, day int, ids, lengths []int) int {
	t.Helper()
	nodes, sum := mustNodes(t, b), 0
	for _, id := range ids {
		sum += lengths[slices.Index(nodes, node(id, day))]
	}
	return sum
}

// TestSharp holds everything that is told of lengths against all histories of small books.
func TestSharp(t *testing.T) {
	r := rand.New(rand.NewSource(61))
	tried, impossible := 0, 0
	for _, s := range scenes(400, 3, 5) {
		n, m := randomNode(r, s.b), randomNode(r, s.b)
		b := lookedAt(s.b, m, n)
		all, ok := histories(t, b)
		if !ok {
			continue
		}
		tried++
		if len(all) == 0 {
			impossible++
			checkImpossible(t, s.b, m, n)
			continue
		}
		checkIntervals(t, b, all)
		checkBetween(t, s.b, m, n, all)
		checkHistory(t, s.b, n, all)
		checkPiles(t, r, s.b)
	}
	if tried < 200 || impossible < 5 || tried-impossible < 150 {
		t.Error("too few books:", tried, impossible)
	}
}

func randomNode(r *rand.Rand, b api.Book) api.Node {
	g := b.Gauges[r.Intn(len(b.Gauges))]
	return node(g.ID, g.Made+r.Intn(sceneDays-g.Made))
}

func checkImpossible(t *testing.T, b api.Book, m, n api.Node) {
	t.Helper()
	if interval, e := sharp.Interval(b, n); interval != span(0, 0) || e != api.ErrClash {
		t.Fatal("P6.1: Interval:", b, n, interval, e)
	}
	if difference, e := sharp.Between(b, m, n); difference != span(0, 0) || e != api.ErrClash {
		t.Fatal("P6.2: Between:", b, m, n, difference, e)
	}
	if spans, e := sharp.Intervals(b); len(spans) != 0 || e != api.ErrClash {
		t.Fatal("P6.1: Intervals:", b, spans, e)
	}
}

// checkIntervals expects that each integer of an interval is reached.
func checkIntervals(t *testing.T, b api.Book, all [][]int) {
	t.Helper()
	spans, e := sharp.Intervals(b)
	nodes := mustNodes(t, b)
	if e != api.OK || len(spans) != len(nodes) {
		t.Fatal("P6.1: Intervals:", b, spans, e)
	}
	for i, n := range nodes {
		reached := map[int]bool{}
		for _, h := range all {
			if !within(spans[i], h[i]) {
				t.Fatal("P6.1, P6.13: Intervals:", b, n, spans[i], h)
			}
			reached[h[i]] = true
		}
		if len(reached) != spans[i].Hi-spans[i].Lo+1 {
			t.Fatal("P6.1, P6.13: Intervals:", b, n, spans[i], reached)
		}
		if interval := mustInterval(t, b, n); interval != spans[i] {
			t.Fatal("P6.1: Interval:", b, n, interval, spans[i])
		}
	}
}

// checkBetween asks a book that has not the nodes yet.
func checkBetween(t *testing.T, b api.Book, m, n api.Node, all [][]int) {
	t.Helper()
	nodes := mustNodes(t, lookedAt(b, m, n))
	first, second := slices.Index(nodes, m), slices.Index(nodes, n)
	reached := map[int]bool{}
	var lengths, differences ends
	for _, h := range all {
		reached[h[first]-h[second]] = true
		differences.add(h[first] - h[second])
		lengths.add(h[second])
	}
	difference, e := sharp.Between(b, m, n)
	if difference != differences.span || e != api.OK || len(reached) != difference.Hi-difference.Lo+1 {
		t.Fatal("P6.2, P6.13: Between:", b, m, n, difference, differences.span, e)
	}
	if interval := mustInterval(t, b, n); interval != lengths.span {
		t.Fatal("P6.1: Interval:", b, n, interval, lengths.span)
	}
}

func checkHistory(t *testing.T, b api.Book, n api.Node, all [][]int) {
	t.Helper()
	more := b
	if !slices.Contains(mustNodes(t, b), n) {
		more = lookedAt(b, n)
	}
	place := slices.Index(mustNodes(t, more), n)
	interval := mustInterval(t, b, n)
	for upper, end := range map[bool]int{true: interval.Hi, false: interval.Lo} {
		lengths, e := sharp.History(b, n, upper)
		if e != api.OK || len(lengths) != len(mustNodes(t, more)) || lengths[place] != end {
			t.Fatal("P6.5: History:", b, n, upper, lengths, end, e)
		}
		if fits, e := compare.Fits(more, lengths); !fits || e != api.OK {
			t.Fatal("P6.5: History:", b, n, upper, lengths, e)
		}
	}
}

// checkPiles asks for piles of all gauges that were made on a day.
func checkPiles(t *testing.T, r *rand.Rand, b api.Book) {
	t.Helper()
	day := r.Intn(sceneDays)
	var ids, x, y []int
	for _, g := range b.Gauges {
		if g.Made > day {
			continue
		}
		ids = append(ids, g.ID)
		if r.Intn(2) == 0 {
			x = append(x, g.ID)
		} else {
			y = append(y, g.ID)
		}
	}
	if len(ids) == 0 {
		return
	}
	more := b
	for _, id := range ids {
		if n := node(id, day); !slices.Contains(mustNodes(t, more), n) {
			more = lookedAt(more, n)
		}
	}
	all, ok := histories(t, more)
	if !ok {
		return
	}
	checkDiffer(t, more, day, x, y, all)
	for _, book := range []api.Book{b, more} {
		checkPile(t, book, day, ids)
	}
	differ, e := sharp.Differ(b, day, x, y)
	if again, f := sharp.Differ(more, day, x, y); differ != again || e != f {
		t.Fatal("P6.4: Differ:", b, day, x, y, differ, again, e, f)
	}
}

// checkPile holds Pile against the intervals, Differ and Between.
func checkPile(t *testing.T, b api.Book, day int, ids []int) {
	t.Helper()
	films := len(ids) - 1
	want := span(films*b.Film.Lo, films*b.Film.Hi)
	for _, id := range ids {
		interval := mustInterval(t, b, node(id, day))
		want.Lo += interval.Lo
		want.Hi += interval.Hi
		alone, e := sharp.Pile(b, day, []int{id})
		if differ, f := sharp.Differ(b, day, []int{id}, nil); alone != interval || differ != interval || e != api.OK || f != api.OK {
			t.Fatal("P6.17: Pile, Differ:", b, day, id, interval, alone, differ, e, f)
		}
	}
	if pile, e := sharp.Pile(b, day, ids); pile != want || e != api.OK {
		t.Fatal("P6.3, P6.17: Pile:", b, day, ids, pile, want, e)
	}
	if len(ids) < 2 {
		return
	}
	between, e := sharp.Between(b, node(ids[0], day), node(ids[1], day))
	if differ, f := sharp.Differ(b, day, ids[:1], ids[1:2]); differ != between || e != api.OK || f != api.OK {
		t.Fatal("P6.17: Differ, Between:", b, day, ids, differ, between, e, f)
	}
}

func TestHistoryExamples(t *testing.T) {
	for i, c := range []struct {
		b     api.Book
		n     api.Node
		upper bool
		count int
		want  int
	}{
		{example(), node(2, 10), true, 4, 1011}, {example(), node(2, 10), false, 4, 984},
		{example(), node(1, 30), true, 5, 1005}, {example(), node(1, 30), false, 5, 964},
		{filled(), node(2, 200), true, api.MaxNodes - 1, 109}, {filled(), node(2, 200), false, api.MaxNodes - 1, 65},
	} {
		lengths, e := sharp.History(c.b, c.n, c.upper)
		book := c.b
		if len(mustNodes(t, book)) < c.count {
			book = lookedAt(book, c.n)
		}
		nodes := mustNodes(t, book)
		if e != api.OK || len(lengths) != c.count || lengths[slices.Index(nodes, c.n)] != c.want {
			t.Error("P6.5: History:", i, lengths, e)
			continue
		}
		if fits, e := compare.Fits(book, lengths); !fits || e != api.OK {
			t.Error("P6.5: History:", i, lengths, e)
		}
	}
}
