package compare_test

import (
	"math/rand"
	"slices"
	"testing"

	"wringing/api"
	"wringing/chain"
	"wringing/compare"
)

// fitting returns those lists of lengths that fit.
func fitting(t *testing.T, b api.Book, l [][]int) [][]int {
	t.Helper()
	return slices.DeleteFunc(l, func(lengths []int) bool { return !mustFit(t, b, lengths) })
}

// predict returns what a comparison can show, and whether there is something.
func predict(t *testing.T, b api.Book, c api.Compare) (api.Span, api.Errno) {
	t.Helper()
	predicted, e := compare.Predict(b, c)
	if e != api.OK && e != api.ErrClash && e != api.ErrNone || e != api.OK && predicted != span(0, 0) || predicted.Lo > predicted.Hi {
		t.Fatal("P5.10: Predict:", b, c, predicted, e)
	}
	return predicted, e
}

// further returns a comparison that the book of a scene does not have.
func (s scene) further(r *rand.Rand) (api.Compare, bool) {
	c, ok := s.randomCompare(r, 99)
	if r.Intn(3) == 0 {
		c.Error, c.Heat.Lo = 0, c.Heat.Hi
	}
	return c, ok
}

// with returns a book with one more comparison of a difference.
func with(t *testing.T, b api.Book, c api.Compare, diff int) api.Book {
	t.Helper()
	c.Diff = diff
	more, e := compare.With(b, c)
	if e != api.OK {
		t.Fatal("P5.2: With:", b, c, e)
	}
	return more
}

func isIn(n int, s api.Span) bool { return s.Lo <= n && n <= s.Hi }

func TestFitsIsSolution(t *testing.T) {
	r := rand.New(rand.NewSource(61))
	for _, s := range scenes(300, 5, 8) {
		system, _ := mustSystem(t, s.b)
		for _, lengths := range s.nearby(t, r, 10) {
			solves, e := chain.Fits(system, append([]int{0}, lengths...))
			if fits := mustFit(t, s.b, lengths); fits != solves || e != api.OK {
				t.Fatal("P5.12: Fits:", s.b, lengths, fits, solves, e)
			}
		}
	}
}

// anyHistory reports whether some lengths have a history, trying all; done is false if they are too many.
func anyHistory(b api.Book, nodes []api.Node) (has, done bool) {
	var ranges []api.Span
	count := 1
	for _, n := range nodes {
		g := gaugeOf(b, n.Gauge)
		loss := 0
		for day := g.Made; day < n.Day; day++ {
			loss += lossOn(b, g, day)
		}
		ranges = append(ranges, span(g.Nominal+g.Tol.Lo-loss, g.Nominal+g.Tol.Hi))
		count *= g.Tol.Hi - g.Tol.Lo + loss + 1
		if count > 3000 {
			return false, false
		}
	}
	lengths := make([]int, len(nodes))
	var try func(at int) bool
	try = func(at int) bool {
		if at == len(nodes) {
			return hasHistory(b, nodes, lengths)
		}
		for length := ranges[at].Lo; length <= ranges[at].Hi; length++ {
			lengths[at] = length
			if try(at + 1) {
				return true
			}
		}
		return false
	}
	return try(0), true
}

func TestConsistentBooks(t *testing.T) {
	count := map[bool]int{}
	for _, s := range scenes(1500, 2, 3) {
		has, done := anyHistory(s.b, nodesWithin(t, s.b))
		if !done {
			continue
		}
		count[has]++
		if has != isPossible(t, s.b) {
			t.Fatal("P5.12: a book and its system:", s.b, has)
		}
	}
	if count[true] < 100 || count[false] < 20 {
		t.Error("too few books with or without a history:", count)
	}
}

func TestLossIsAdded(t *testing.T) {
	r := rand.New(rand.NewSource(62))
	books := []api.Book{example(), filled()}
	for _, s := range scenes(100, 3, 0) {
		books = append(books, s.b)
	}
	for _, b := range books {
		for range 30 {
			g := b.Gauges[r.Intn(len(b.Gauges))]
			var days []int
			for range 3 {
				days = append(days, g.Made+r.Intn(120))
			}
			slices.Sort(days)
			first, e := compare.Loss(b, g.ID, days[0], days[1])
			then, f := compare.Loss(b, g.ID, days[1], days[2])
			all, h := compare.Loss(b, g.ID, days[0], days[2])
			if e != api.OK || f != api.OK || h != api.OK || first+then != all {
				t.Fatal("P5.13: Loss:", b, g, days, first, then, all)
			}
		}
	}
}

func TestWhatIsShown(t *testing.T) {
	r := rand.New(rand.NewSource(63))
	shown := 0
	for _, s := range scenes(300, 4, 5) {
		for _, lengths := range fitting(t, s.b, s.nearby(t, r, 8)) {
			for i, c := range s.b.Compares {
				shows, e := compare.Shows(s.b, i, lengths)
				if e != api.OK || !isIn(c.Diff, shows) {
					t.Fatal("P5.14: Shows:", s.b, lengths, i, shows, e)
				}
				c.ID = 99
				for diff := shows.Lo - 1; diff <= shows.Hi+1; diff++ {
					if fits := mustFit(t, with(t, s.b, c, diff), lengths); fits != isIn(diff, shows) {
						t.Fatal("P5.14: Fits with a further comparison:", s.b, lengths, i, diff, shows)
					}
					shown++
				}
			}
		}
	}
	if shown < 3000 {
		t.Error("too few differences:", shown)
	}
}

func TestWhatIsPredicted(t *testing.T) {
	r := rand.New(rand.NewSource(64))
	count := map[api.Errno]int{}
	for _, s := range scenes(800, 4, 6) {
		c, ok := s.further(r)
		if !ok {
			continue
		}
		predicted, e := predict(t, s.b, c)
		count[e]++
		possible := isPossible(t, s.b)
		if possible == (e == api.ErrClash) {
			t.Fatal("P5.10: Predict:", s.b, c, predicted, e)
		}
		switch e {
		case api.OK:
			for diff := predicted.Lo - 2; diff <= predicted.Hi+2; diff++ {
				if isPossible(t, with(t, s.b, c, diff)) != isIn(diff, predicted) {
					t.Fatal("P5.14: Predict:", s.b, c, predicted, diff)
				}
			}
		case api.ErrNone:
			for diff := -90; diff <= 90; diff++ {
				if isPossible(t, with(t, s.b, c, diff)) {
					t.Fatal("P5.14: Predict:", s.b, c, e, diff)
				}
			}
		}
	}
	if count[api.OK] < 300 || count[api.ErrClash] < 50 || count[api.ErrNone] < 20 {
		t.Error("too few predictions:", count)
	}
}

// TestPredictByShows has all differences that are shown for all lengths that fit.
func TestPredictByShows(t *testing.T) {
	r := rand.New(rand.NewSource(65))
	for _, s := range scenes(300, 3, 3) {
		c, ok := s.further(r)
		if !ok {
			continue
		}
		predicted, e := predict(t, s.b, c)
		more := with(t, s.b, c, 0)
		less := changed(more, func(b *api.Book) { b.Compares = b.Compares[:len(b.Compares)-1] })
		// With looks at its nodes, the book without the comparison has the same nodes.
		for _, n := range mustNodes(t, more) {
			if !slices.Contains(less.Looks, n) {
				less.Looks = append(less.Looks, n)
			}
		}
		if compare.Check(less) != api.OK {
			continue
		}
		for _, lengths := range fitting(t, less, scene{less, s.made, s.lost}.nearby(t, r, 10)) {
			shows, f := compare.Shows(more, len(more.Compares)-1, lengths)
			if f != e || shows.Lo < predicted.Lo || shows.Hi > predicted.Hi {
				t.Fatal("P5.10: Predict:", s.b, c, predicted, e, lengths, shows, f)
			}
		}
	}
}

// narrowed changes a book such that it knows more, and keeps its nodes.
func narrowed(r *rand.Rand, b api.Book) api.Book {
	b = cloned(b)
	narrow := func(s *api.Span) {
		if r.Intn(3) == 0 {
			s.Lo += r.Intn(s.Hi - s.Lo + 1)
			s.Hi -= r.Intn(s.Hi - s.Lo + 1)
		}
	}
	lower := func(n *int) {
		if r.Intn(3) == 0 {
			*n = r.Intn(*n + 1)
		}
	}
	narrow(&b.Film)
	for i := range b.Gauges {
		narrow(&b.Gauges[i].Tol)
		lower(&b.Gauges[i].Wear)
	}
	for i := range b.Loans {
		lower(&b.Loans[i].Wear)
	}
	for i := range b.Compares {
		lower(&b.Compares[i].Error)
		narrow(&b.Compares[i].Heat)
	}
	return b
}

func TestMoreKnowledge(t *testing.T) {
	r := rand.New(rand.NewSource(66))
	fit := 0
	for _, s := range scenes(600, 4, 5) {
		less := narrowed(r, s.b)
		for _, lengths := range (scene{less, s.made, s.lost}).nearby(t, r, 10) {
			if mustFit(t, less, lengths) {
				fit++
				if !mustFit(t, s.b, lengths) {
					t.Fatal("P5.15: Fits:", s.b, less, lengths)
				}
			}
		}
	}
	if fit < 1000 {
		t.Error("too few lists that fit:", fit)
	}
}

// TestFewerComparisons leaves comparisons out of a book that looks at all its nodes.
func TestFewerComparisons(t *testing.T) {
	r := rand.New(rand.NewSource(67))
	for _, s := range scenes(300, 4, 5) {
		nodes := mustNodes(t, s.b)
		if len(nodes) > api.MaxLooks {
			continue
		}
		b := changed(s.b, func(b *api.Book) { b.Looks = nodes })
		var ids []int
		for _, c := range b.Compares {
			if r.Intn(2) == 0 {
				ids = append(ids, c.ID)
			}
		}
		less, e := compare.Without(b, ids)
		if e != api.OK || !slices.Equal(mustNodes(t, less), nodes) {
			t.Fatal("P5.2: Without:", b, ids, less, e)
		}
		for _, lengths := range s.nearby(t, r, 10) {
			if mustFit(t, b, lengths) && !mustFit(t, less, lengths) {
				t.Fatal("P5.15: Fits without comparisons:", b, ids, lengths)
			}
		}
	}
}

func shuffle[T any](r *rand.Rand, l []T) {
	r.Shuffle(len(l), func(i, j int) { l[i], l[j] = l[j], l[i] })
}

func TestOrderDoesNotMatter(t *testing.T) {
	r := rand.New(rand.NewSource(68))
	for _, s := range scenes(300, 4, 6) {
		other := changed(s.b, func(b *api.Book) {
			shuffle(r, b.Uses)
			shuffle(r, b.Loans)
			shuffle(r, b.Looks)
			for i, c := range b.Compares {
				if r.Intn(2) == 0 {
					b.Compares[i].A, b.Compares[i].B, b.Compares[i].Diff = c.B, c.A, -c.Diff
				}
			}
		})
		for _, lengths := range s.nearby(t, r, 10) {
			if mustFit(t, s.b, lengths) != mustFit(t, other, lengths) {
				t.Fatal("P5.16: Fits:", s.b, other, lengths)
			}
		}
		for _, g := range s.b.Gauges {
			from, to := g.Made+r.Intn(3), g.Made+r.Intn(9)
			loss, e := compare.Loss(s.b, g.ID, from, to)
			again, f := compare.Loss(other, g.ID, from, to)
			if loss != again || e != f {
				t.Fatal("P5.16: Loss:", s.b, other, g, from, to, loss, again)
			}
		}
		c, ok := s.further(r)
		if !ok {
			continue
		}
		predicted, e := predict(t, s.b, c)
		again, f := predict(t, other, c)
		c.A, c.B = c.B, c.A
		turned, g := predict(t, s.b, c)
		if predicted != again || e != f || e != g || turned != span(-predicted.Hi, -predicted.Lo) {
			t.Fatal("P5.16: Predict:", s.b, other, c, predicted, again, turned)
		}
	}
}

func combined(x, y []int, f func(a, b int) int) []int {
	var z []int
	for i := range x {
		z = append(z, f(x[i], y[i]))
	}
	return z
}

func TestLengthsBetween(t *testing.T) {
	r := rand.New(rand.NewSource(69))
	for _, s := range scenes(200, 4, 5) {
		l := fitting(t, s.b, s.nearby(t, r, 15))
		for range min(len(l), 10) {
			x, y := l[r.Intn(len(l))], l[r.Intn(len(l))]
			towards := func(a, b int) int { return a + max(-1, min(1, b-a)) }
			for i, z := range [][]int{
				combined(x, y, func(a, b int) int { return max(a, b) }), combined(x, y, func(a, b int) int { return min(a, b) }), combined(x, y, towards),
			} {
				if !mustFit(t, s.b, z) {
					t.Fatal("P5.17: Fits:", i, s.b, x, y, z)
				}
			}
		}
	}
}

func TestThreeGauges(t *testing.T) {
	r := rand.New(rand.NewSource(70))
	count := 0
	for _, s := range scenes(1500, 5, 6) {
		if len(s.b.Gauges) < 3 {
			continue
		}
		there := slices.Clone(s.b.Gauges)
		shuffle(r, there)
		day := r.Intn(sceneDays)
		compared := func(a, b int) (api.Span, bool) {
			predicted, e := compare.Predict(s.b, cold(99, day, []int{there[a].ID}, []int{there[b].ID}, 0, 0))
			return predicted, e == api.OK
		}
		first, ok1 := compared(0, 1)
		second, ok2 := compared(1, 2)
		both, ok3 := compared(0, 2)
		if !ok1 || !ok2 || !ok3 {
			continue
		}
		count++
		if both.Lo < first.Lo+second.Lo || both.Hi > first.Hi+second.Hi {
			t.Fatal("P5.18: Predict:", s.b, there, day, first, second, both)
		}
	}
	if count < 100 {
		t.Error("too few books with three gauges:", count)
	}
}

func TestComparedAgain(t *testing.T) {
	r := rand.New(rand.NewSource(71))
	wider := 0
	for _, s := range scenes(500, 4, 5) {
		c, ok := s.further(r)
		for i, old := range s.b.Compares {
			old.ID = 98
			more := with(t, s.b, old, old.Diff)
			for _, lengths := range s.nearby(t, r, 5) {
				if mustFit(t, more, lengths) != mustFit(t, s.b, lengths) {
					t.Fatal("P5.19: Fits:", s.b, i, lengths)
				}
			}
			if predicted, e := predict(t, s.b, old); isPossible(t, s.b) && (e != api.OK || !isIn(old.Diff, predicted)) {
				t.Fatal("P5.19: Predict:", s.b, old, predicted, e)
			}
			if !ok {
				continue
			}
			// A comparison less is the same as a further one in the other book.
			less, _ := compare.Without(s.b, []int{s.b.Compares[i].ID})
			before, e := predict(t, less, c)
			after, f := predict(t, s.b, c)
			if f == api.OK && (e != api.OK || after.Lo < before.Lo || after.Hi > before.Hi) || f == api.ErrNone && e != api.ErrNone {
				t.Fatal("P5.19: Predict with a comparison more:", s.b, i, c, before, after, e, f)
			}
			if f == api.OK && before != after {
				wider++
			}
		}
	}
	if wider < 50 {
		t.Error("too few predictions that become narrower:", wider)
	}
}
