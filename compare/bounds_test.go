package compare_test

import (
	"math/big"
	"math/rand"
	"slices"
	"testing"

	"wringing/api"
	"wringing/compare"
)

func TestLossExamples(t *testing.T) {
	b := changed(example(), func(b *api.Book) {
		b.Gauges[1].Made, b.Gauges[1].Wear = 5, api.MaxWear
		b.Uses = append(b.Uses, use(2, 6), use(2, 6), use(2, 8), use(1, 30))
		b.Loans = append(b.Loans, loan(1, 40, 40, 7), loan(2, 100, api.MaxDay, api.MaxWear))
	})
	for i, c := range []struct{ gauge, from, to, loss int }{
		{1, 0, 10, 0}, {1, 0, 11, 1}, {1, 0, 25, 16}, {1, 10, 10, 0}, {1, 10, 11, 1}, {1, 11, 20, 0}, {1, 11, 21, 3},
		{1, 20, 30, 30}, {1, 25, 27, 6}, {1, 29, 30, 3}, {1, 30, 31, 1}, {1, 20, 31, 31}, {1, 0, api.MaxDay, 1 + 30 + 1 + 7}, {1, 39, 41, 7}, {1, 41, 50, 0},
		{1, 0, 0, 0}, {1, api.MaxDay, api.MaxDay, 0}, {2, 5, 5, 0}, {2, 5, 6, 0}, {2, 5, 7, api.MaxWear}, {2, 6, 9, 2 * api.MaxWear},
		{2, 5, api.MaxDay, (2 + api.MaxDay - 100) * api.MaxWear}, {2, api.MaxDay - 1, api.MaxDay, api.MaxWear},
	} {
		if loss, e := compare.Loss(b, c.gauge, c.from, c.to); loss != c.loss || e != api.OK {
			t.Error("P5.4: Loss:", i, loss, e)
		}
	}
	for i, c := range []struct{ gauge, from, to int }{
		{1, 1, 0}, {1, api.MaxDay, 0}, {1, 11, 10}, {2, 4, 5}, {2, 4, 4}, {2, 0, api.MaxDay}, {2, 6, 5}, {2, 3, 2},
	} {
		if loss, e := compare.Loss(b, c.gauge, c.from, c.to); loss != 0 || e != api.ErrRange {
			t.Error("P5.4: Loss:", i, loss, e)
		}
	}
}

// TestLossByDays adds the losses of all days, by the words of the chapter.
func TestLossByDays(t *testing.T) {
	for _, s := range scenes(300, 3, 0) {
		for _, g := range s.b.Gauges {
			for from := range sceneDays + 2 {
				sum := 0
				for to := from; to < sceneDays+2; to++ {
					loss, e := compare.Loss(s.b, g.ID, from, to)
					if from >= g.Made && (loss != sum || e != api.OK) || from < g.Made && e != api.ErrRange {
						t.Fatal("P5.4: Loss:", s.b, g, from, to, loss, e)
					}
					sum += lossOn(s.b, g, to)
				}
			}
			for day := range sceneDays + 2 {
				used, e := compare.Used(s.b, g.ID, day)
				away, f := compare.Away(s.b, g.ID, day)
				if e != api.OK || f != api.OK || away != isAway(s.b, g.ID, day) || used != slices.Contains(s.b.Uses, use(g.ID, day)) {
					t.Fatal("P5.3: Used, Away:", s.b, g, day, used, away)
				}
			}
		}
	}
}

// threeGauges is a book of three gauges that grow, with films from 1 to 4, and one comparison.
func threeGauges(c api.Compare) api.Book {
	b := plain(3)
	b.Film = span(1, 4)
	for i, growth := range []api.Rat{rat(1, 10), rat(1, 4), rat(-7, 3)} {
		b.Gauges[i].Growth = growth
	}
	b.Compares = []api.Compare{c}
	return b
}

func TestGrowthFilmsSaysExamples(t *testing.T) {
	type row struct {
		b           api.Book
		growth      api.Range
		films, says api.Span
	}
	heat := func(c api.Compare, lo, hi int) api.Book {
		c.Heat = span(lo, hi)
		return threeGauges(c)
	}
	rng := func(a, b, c, d int) api.Range { return api.Range{Lo: rat(a, b), Hi: rat(c, d)} }
	for i, c := range []row{
		{example(), rng(-30, 1, -15, 1), span(0, 0), span(-6, 11)},
		{heat(cold(1, 0, []int{1}, []int{2}, 0, 0), 0, 0), rng(0, 1, 0, 1), span(0, 0), span(0, 0)},
		{heat(cold(1, 0, []int{1}, []int{2}, 5, 2), -3, 4), rng(-3, 5, 9, 20), span(0, 0), span(3, 7)},
		{heat(cold(1, 0, []int{2}, []int{1}, 5, 2), -3, 4), rng(-9, 20, 3, 5), span(0, 0), span(3, 7)},
		{heat(cold(1, 0, []int{3}, nil, 100, 1), 1, 2), rng(-14, 3, -7, 3), span(0, 0), span(102, 105)},
		{heat(cold(1, 0, nil, []int{3}, -100, 1), 1, 2), rng(7, 3, 14, 3), span(0, 0), span(-105, -102)},
		{heat(cold(1, 0, []int{1, 3}, []int{2, 3}, -20, 1), 100, 200), rng(-30, 1, -15, 1), span(-3, 3), span(-9, 14)},
		{heat(cold(1, 0, []int{1, 2, 3}, []int{1, 3}, 0, 0), 4, 4), rng(1, 1, 1, 1), span(-2, 7), span(-8, 1)},
		{heat(cold(1, 0, []int{1, 3}, []int{1, 2, 3}, 0, 0), 4, 4), rng(-1, 1, -1, 1), span(-7, 2), span(-1, 8)},
		{heat(cold(1, 0, []int{1, 3}, []int{1}, 0, 0), 0, 0), rng(0, 1, 0, 1), span(1, 4), span(-4, -1)},
		{heat(cold(1, 0, []int{1}, nil, 100, 0), 5, 5), rng(1, 2, 1, 2), span(0, 0), span(100, 99)},
		{heat(cold(1, 0, []int{1}, nil, 100, 0), -5, -5), rng(-1, 2, -1, 2), span(0, 0), span(101, 100)},
		{heat(cold(1, 0, []int{1}, nil, 100, 0), 4, 5), rng(2, 5, 1, 2), span(0, 0), span(100, 99)},
		{heat(cold(1, 0, []int{1}, nil, 100, 0), 5, 10), rng(1, 2, 1, 1), span(0, 0), span(99, 99)},
		{heat(cold(1, 0, []int{1}, nil, api.MaxLen, api.MaxTol), 0, 0), rng(0, 1, 0, 1), span(0, 0), span(api.MaxLen-api.MaxTol, api.MaxLen+api.MaxTol)},
		{heat(cold(1, 0, []int{1}, nil, -api.MaxLen, api.MaxTol), 0, 0), rng(0, 1, 0, 1), span(0, 0), span(-api.MaxLen-api.MaxTol, -api.MaxLen+api.MaxTol)},
	} {
		growth, e := compare.Growth(c.b, 0)
		films, f := compare.Films(c.b, 0)
		says, g := compare.Says(c.b, 0)
		if growth != c.growth || e != api.OK || f != api.OK || g != api.OK {
			t.Error("P5.4: Growth:", i, growth, e, f, g)
		}
		if films != c.films {
			t.Error("P5.4: Films:", i, films)
		}
		if says != c.says {
			t.Error("P5.5: Says:", i, says)
		}
	}
}

// TestFilmsOfTheChapter has the films of the last example of the chapter.
func TestFilmsOfTheChapter(t *testing.T) {
	b := changed(plain(3), func(b *api.Book) {
		b.Film = span(0, 2)
		b.Compares = []api.Compare{cold(1, 0, []int{1, 3}, []int{1}, 0, 0), cold(2, 0, []int{1, 3}, []int{2, 3}, 0, 0)}
	})
	for i, want := range []api.Span{span(0, 2), span(-2, 2)} {
		if films, e := compare.Films(b, i); films != want || e != api.OK {
			t.Error("P5.4: Films:", i, films, e)
		}
	}
}

// TestGrowthOfExtremes has the greatest growths, with the finest parts, at the highest temperatures.
func TestGrowthOfExtremes(t *testing.T) {
	growths := []api.Rat{
		rat(0, 1), rat(api.MaxGrowth, 1), rat(-api.MaxGrowth, 1), rat(999, api.MaxPart), rat(-999, api.MaxPart), rat(api.MaxGrowth, 99), rat(-api.MaxGrowth, 99), rat(-999, 98), rat(991, 97), rat(1, api.MaxPart),
	}
	heats := []api.Span{span(-api.MaxHeat, api.MaxHeat), span(api.MaxHeat, api.MaxHeat), span(-api.MaxHeat, -api.MaxHeat), span(-9999, 9998), span(-1, 0), span(1, 9999)}
	for _, one := range growths {
		for _, other := range growths {
			for _, heat := range heats {
				b := changed(plain(2), func(b *api.Book) {
					b.Film = span(0, api.MaxFilm)
					b.Gauges[0].Growth, b.Gauges[1].Growth = one, other
					b.Compares = []api.Compare{{ID: 1, A: []int{1}, B: []int{2}, Diff: -api.MaxLen, Error: api.MaxTol, Heat: heat}}
				})
				least, most := displays(b, b.Compares[0], func(int) int { return 0 })
				growth, e := compare.Growth(b, 0)
				if e != api.OK || bigOf(growth.Lo).Cmp(least) != 0 || bigOf(growth.Hi).Cmp(most) != 0 {
					t.Fatal("P5.4: Growth:", one, other, heat, growth, e)
				}
				checkSays(t, b, 0)
			}
		}
	}
}

func bigOf(r api.Rat) *big.Rat { return big.NewRat(int64(r.Num), int64(r.Den)) }

// checkSays tries the differences at both ends of Says, and next to them.
func checkSays(t *testing.T, b api.Book, which int) {
	t.Helper()
	says, e := compare.Says(b, which)
	if e != api.OK || says.Lo > says.Hi+1 {
		t.Fatal("P5.5: Says:", b, which, says, e)
	}
	c := b.Compares[which]
	left, _ := leftOf(c.A, c.B)
	for _, end := range []int{says.Lo, says.Hi} {
		for difference := end - 2; difference <= end+2; difference++ {
			length := func(id int) int {
				switch {
				case len(left) == 1 && id == left[0]:
					return difference
				case len(left) == 0 && !slices.Contains(c.A, id):
					return -difference
				}
				return 0
			}
			if can := canShow(b, c, c.Diff, length); can != (says.Lo <= difference && difference <= says.Hi) {
				t.Fatal("P5.5: Says:", b, which, says, difference)
			}
		}
	}
}

// TestSaysByDefinition asks for each comparison of many books what the words of the chapter say.
func TestSaysByDefinition(t *testing.T) {
	compared := 0
	for _, s := range scenes(600, 4, 6) {
		for i, c := range s.b.Compares {
			compared++
			checkSays(t, s.b, i)
			x, y := leftOf(c.A, c.B)
			slope := wholly(0)
			for _, id := range x {
				slope.Add(slope, bigOf(gaugeOf(s.b, id).Growth))
			}
			for _, id := range y {
				slope.Sub(slope, bigOf(gaugeOf(s.b, id).Growth))
			}
			ends := [2]*big.Rat{new(big.Rat).Mul(slope, wholly(c.Heat.Lo)), new(big.Rat).Mul(slope, wholly(c.Heat.Hi))}
			if slope.Sign() < 0 {
				ends[0], ends[1] = ends[1], ends[0]
			}
			growth, e := compare.Growth(s.b, i)
			if e != api.OK || bigOf(growth.Lo).Cmp(ends[0]) != 0 || bigOf(growth.Hi).Cmp(ends[1]) != 0 {
				t.Fatal("P5.4: Growth:", s.b, i, growth, e)
			}
			a, b := max(len(c.A), 1)-1, max(len(c.B), 1)-1
			films, e := compare.Films(s.b, i)
			if want := span(a*s.b.Film.Lo-b*s.b.Film.Hi, a*s.b.Film.Hi-b*s.b.Film.Lo); films != want || e != api.OK {
				t.Fatal("P5.4: Films:", s.b, i, films, e)
			}
		}
	}
	if compared < 500 {
		t.Error("too few comparisons:", compared)
	}
}

func TestShowsExamples(t *testing.T) {
	lengths := []int{1000, 1000, 990, 990}
	for i, c := range []struct {
		heat    api.Span
		most    int
		lengths []int
		want    api.Span
		e       api.Errno
	}{
		{span(100, 200), 1, lengths, span(-21, -4), api.OK},
		{span(0, 0), 0, lengths, span(10, 10), api.OK},
		{span(0, 0), 3, lengths, span(7, 13), api.OK},
		{span(1, 1), 0, lengths, span(0, 0), api.ErrNone},
		{span(1, 1), 1, lengths, span(9, 10), api.OK},
		{span(1, 6), 0, lengths, span(0, 0), api.ErrNone},
		{span(1, 7), 0, lengths, span(9, 9), api.OK},
		{span(20, 20), 0, lengths, span(7, 7), api.OK},
		{span(-20, -20), 0, lengths, span(13, 13), api.OK},
		{span(0, 0), 0, []int{7, -3, 5, 4}, span(-7, -7), api.OK},
		{span(0, 0), api.MaxTol, []int{0, api.MaxBound, 0, -api.MaxBound}, span(2*api.MaxBound-api.MaxTol, 2*api.MaxBound+api.MaxTol), api.OK},
		{span(0, 0), 0, []int{0, -api.MaxBound, 0, api.MaxBound}, span(-2*api.MaxBound, -2*api.MaxBound), api.OK},
	} {
		b := changed(example(), func(b *api.Book) { b.Compares[0].Heat, b.Compares[0].Error = c.heat, c.most })
		if shows, e := compare.Shows(b, 0, c.lengths); shows != c.want || e != c.e {
			t.Error("P5.9: Shows:", i, shows, e)
		}
	}
}

// TestShowsByDefinition has all differences that are shown for the true lengths, and for others.
func TestShowsByDefinition(t *testing.T) {
	r := rand.New(rand.NewSource(53))
	none := 0
	for _, s := range scenes(600, 4, 6) {
		nodes, lengths := mustNodes(t, s.b), s.truth(t)
		for i, c := range s.b.Compares {
			for j := range lengths {
				lengths[j] += r.Intn(3) - 1
			}
			if r.Intn(2) == 0 {
				c.Error, c.Heat.Lo = 0, c.Heat.Hi
				s.b.Compares[i] = c
			}
			shows, e := compare.Shows(s.b, i, lengths)
			if e != api.OK && (e != api.ErrNone || shows != span(0, 0)) {
				t.Fatal("P5.9: Shows:", s.b, i, lengths, shows, e)
			}
			if e == api.ErrNone {
				none++
			}
			var can []int
			for diff := shows.Lo; diff <= shows.Hi && e == api.OK; diff++ {
				can = append(can, diff)
			}
			// What both piles have is not a node, but its length does not matter.
			length := func(id int) int {
				at := slices.Index(nodes, node(id, c.Day))
				if at < 0 {
					return 77
				}
				return lengths[at]
			}
			if all := allShown(s.b, c, length); !slices.Equal(can, all) {
				t.Fatal("P5.9: Shows:", s.b, i, lengths, all, shows, e)
			}
		}
	}
	if none < 20 {
		t.Error("too few comparisons that can show nothing:", none)
	}
}

func TestPredictExamples(t *testing.T) {
	warm := func(c api.Compare, lo, hi int) api.Compare {
		c.Heat = span(lo, hi)
		return c
	}
	apart := changed(example(), func(b *api.Book) { b.Gauges[1].Tol = span(-50, -20) })
	fixed := changed(plain(2), func(b *api.Book) {
		b.Gauges[0].Tol, b.Gauges[1].Tol = span(0, 0), span(3, 3)
		b.Gauges[0].Growth = rat(1, 2)
	})
	for i, c := range []struct {
		b    api.Book
		c    api.Compare
		want api.Span
		e    api.Errno
	}{
		{example(), cold(8, 10, []int{1}, []int{2}, 0, 0), span(-6, 11), api.OK},
		{example(), cold(8, 10, []int{1}, []int{2}, api.MaxLen+1, 0), span(-6, 11), api.OK},
		{example(), cold(8, 10, []int{1}, []int{2}, leastInt, 5), span(-11, 16), api.OK},
		{example(), cold(8, 10, []int{2}, []int{1}, 0, 0), span(-11, 6), api.OK},
		{example(), cold(8, 0, []int{1}, []int{2}, 0, 0), span(-6, 11), api.OK},
		{example(), cold(8, 11, []int{1}, []int{2}, 0, 0), span(-7, 11), api.OK},
		{example(), cold(8, 30, []int{1}, []int{2}, 0, 0), span(-37, 11), api.OK},
		{example(), cold(8, 10, []int{2}, nil, 0, 0), span(984, 1011), api.OK},
		{example(), cold(8, 10, nil, []int{2}, 0, 0), span(-1011, -984), api.OK},
		{example(), cold(8, 25, []int{2}, nil, 0, 1), span(983, 1012), api.OK},
		{example(), cold(8, 10, []int{1, 2}, []int{2}, 0, 0), span(995, 1007), api.OK},
		{example(), warm(cold(8, 10, []int{1}, []int{2}, 0, 0), 100, 200), span(-36, -4), api.OK},
		{example(), warm(cold(8, 10, []int{1}, nil, 0, 0), 1, 10), span(996, 1006), api.OK},
		{example(), warm(cold(8, 10, []int{1}, nil, 0, 0), 1, 9), span(0, 0), api.ErrNone},
		{example(), warm(cold(8, 10, []int{1}, nil, 0, 1), 1, 9), span(995, 1006), api.OK},
		{apart, cold(8, 10, []int{1}, []int{2}, 0, 0), span(0, 0), api.ErrClash},
		{apart, warm(cold(8, 10, []int{1}, nil, 0, 0), 1, 9), span(0, 0), api.ErrClash},
		{apart, cold(7, 10, []int{1}, nil, 0, 0), span(0, 0), api.ErrTwice},
		{fixed, warm(cold(8, 10, []int{1}, []int{2}, 0, 0), 1, 1), span(0, 0), api.ErrNone},
		{fixed, warm(cold(8, 10, []int{1}, []int{2}, 0, 0), 2, 2), span(-2, -2), api.OK},
		{fixed, warm(cold(8, 10, []int{1}, []int{2}, 0, 0), 1, 3), span(-2, -2), api.OK},
		{fixed, warm(cold(8, 10, []int{1}, []int{2}, 0, 1), 1, 1), span(-3, -2), api.OK},
		{fixed, warm(cold(8, 10, nil, []int{2}, 0, 0), 9, 9), span(-103, -103), api.OK},
	} {
		if predicted, e := compare.Predict(c.b, c.c); predicted != c.want || e != c.e {
			t.Error("P5.10: Predict:", i, predicted, e)
		}
	}
}
