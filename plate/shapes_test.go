package plate_test

import (
	"math/rand"
	"slices"
	"testing"

	"wringing/api"
	"wringing/plate"
)

func TestClassesExamples(t *testing.T) {
	for i, c := range []struct {
		s           api.Shop
		which       int
		least, ways []int
		freedom     int
	}{
		{straight(), 0, []int{0, 1, 2, 3}, []int{0, 0, 0, 0}, 0},
		{twisted(), 0, []int{0, 0, 2, 2}, []int{1, -1, 1, -1}, 2},
		{crossed(), 0, []int{0, 0, 0, 0}, []int{0, 0, 0, 0}, 0},
		{shop(2, 1), 0, []int{0, 1, 2, 3}, []int{1, 1, 1, 1}, 3}, // without Minus, one of the heights is the mean
		{shop(1, 1), 0, []int{0}, []int{1}, 0},
		{shop(1, 3, work(0, 1, 3), work(1, 2, 0), work(0, 2, 6)), 0, []int{0}, []int{0}, 0},
		{shop(2, 2, work(0, 1, 0), work(0, 1, 1)), 1, []int{0, 0, 0, 0}, []int{1, 1, 1, 1}, 0},
		{shop(2, 2, work(0, 1, 0), work(0, 1, 2)), 1, []int{0, 1, 1, 0}, []int{1, 1, 1, 1}, 1},
		{shop(3, 3, work(0, 1, 0), work(1, 2, 0), work(2, 0, 4)), 2, []int{0, 1, 0, 3, 4, 3, 6, 7, 6}, []int{1, 0, -1, 1, 0, -1, 1, 0, -1}, 3},
		{shop(3, 3, work(0, 1, 0), work(1, 2, 0), work(2, 0, 1)), 0, []int{0, 1, 0, 1, 4, 1, 0, 1, 0}, []int{1, 1, -1, -1, 0, -1, -1, 1, 1}, 2},
		{shop(3, 3, work(0, 1, 0), work(1, 2, 0), work(2, 0, 5)), 1, []int{0, 1, 2, 1, 4, 5, 2, 5, 8}, []int{0, 1, 1, -1, 0, 1, -1, -1, 0}, 3},
	} {
		least, ways, e := plate.Classes(c.s, c.which)
		if !slices.Equal(least, c.least) || !slices.Equal(ways, c.ways) || e != api.OK {
			t.Error("P3.7: Classes:", i, least, ways, e)
		}
		if n := freedom(t, c.s, c.which); n != c.freedom {
			t.Error("P3.7: Freedom:", i, n)
		}
		if flat := isFlat(t, c.s, c.which); flat != (c.freedom == 0) {
			t.Error("P3.8: Flat:", i, flat)
		}
	}
}

// classesOf returns what the signs of a plate say of its cells, by the words of the chapter.
func classesOf(s api.Shop, which int) (least, ways []int) {
	l := signsOf(s, which)
	for cell := range s.Side * s.Side {
		first := cell
		for _, x := range l {
			first = min(first, cellOf(s.Side, x.Turn, cell))
		}
		way := -1
		for _, x := range l {
			if !x.Minus && cellOf(s.Side, x.Turn, first) == cell {
				way = 1
			}
		}
		for _, x := range l {
			for _, y := range l {
				other := cellOf(s.Side, y.Turn, cell)
				if x.Minus && cellOf(s.Side, x.Turn, other) == other {
					way = 0
				}
			}
		}
		least, ways = append(least, first), append(ways, way)
	}
	return least, ways
}

func TestClasses(t *testing.T) {
	for _, s := range shops(300, api.MaxGrid, 6) {
		for which := range s.Plates {
			wantLeast, wantWays := classesOf(s, which)
			least, ways, e := plate.Classes(s, which)
			if !slices.Equal(least, wantLeast) || !slices.Equal(ways, wantWays) || e != api.OK {
				t.Fatal("P3.7: Classes:", s, which, least, ways, e)
			}
		}
	}
}

// TestFreedom counts the dimensions of what fits, which knows nothing of walks.
func TestFreedom(t *testing.T) {
	for _, s := range shops(60, 4, 4) {
		for which := range s.Plates {
			want := freedomOf(s, which)
			if n := freedom(t, s, which); n != want {
				t.Fatal("P3.7: Freedom:", s, which, n, want)
			}
			if isFlat(t, s, which) != (want == 0) {
				t.Fatal("P3.8, P3.16: Flat:", s, which, want)
			}
		}
	}
}

func TestThreePlates(t *testing.T) {
	for side := 1; side <= api.MaxGrid; side++ {
		for a := range api.Turns {
			for b := range api.Turns {
				for c := range api.Turns {
					s := shop(side, 3, work(0, 1, a), work(1, 2, b), work(2, 0, c))
					around := after(after(a, b), c)
					more, e := plate.With(s, work(0, 1, after(a, 1)))
					if e != api.OK {
						t.Fatal("P3.2: With:", s, e)
					}
					for which := range 3 {
						checkThree(t, s, more, which, around)
					}
				}
			}
		}
	}
}

func checkThree(t *testing.T, s, more api.Shop, which, around int) {
	t.Helper()
	if around == 0 && !isFlat(t, s, which) {
		t.Error("P3.14: three plates are flat:", s, which)
	}
	if around < 4 {
		return
	}
	if isFlat(t, s, which) != (s.Side == 1) {
		t.Error("P3.14: a twist is left:", s, which)
	}
	if isFlat(t, more, which) != (s.Side <= 3) || s.Side == 4 && freedom(t, more, which) != 1 {
		t.Error("P3.14: a quarter turn takes the twist away:", more, which)
	}
}

func TestShapeExamples(t *testing.T) {
	two := shop(2, 4, work(0, 1, 1))
	for i, c := range []struct {
		s       api.Shop
		which   int
		heights []int
		want    [][]int
		e       api.Errno
	}{
		{twisted(), 0, []int{5, 7}, [][]int{{5, -5, 7, -7}, {-5, 5, -7, 7}, {5, -5, 7, -7}}, api.OK},
		{twisted(), 1, []int{5, 7}, [][]int{{-5, 5, -7, 7}, {5, -5, 7, -7}, {-5, 5, -7, 7}}, api.OK},
		{straight(), 0, nil, zeros(straight()), api.OK},
		{crossed(), 2, []int{}, zeros(crossed()), api.OK},
		{two, 0, []int{1, 2, 3, 4}, [][]int{{1, 2, 3, 4}, {-3, -1, -4, -2}, {0, 0, 0, 0}, {0, 0, 0, 0}}, api.OK},
		{two, 1, []int{1, 2, 3, 4}, [][]int{{-2, -4, -1, -3}, {1, 2, 3, 4}, {0, 0, 0, 0}, {0, 0, 0, 0}}, api.OK},
		{two, 3, []int{1, 2, 3, 4}, [][]int{{0, 0, 0, 0}, {0, 0, 0, 0}, {0, 0, 0, 0}, {1, 2, 3, 4}}, api.OK},
		{shop(1, 1), 0, []int{9}, [][]int{{9}}, api.OK},
		{shop(1, 2, work(1, 0, 4)), 0, []int{api.MaxHeight}, [][]int{{api.MaxHeight}, {-api.MaxHeight}}, api.OK},
		{twisted(), 0, []int{api.MaxHeight, -api.MaxHeight}, [][]int{
			{api.MaxHeight, -api.MaxHeight, -api.MaxHeight, api.MaxHeight},
			{-api.MaxHeight, api.MaxHeight, api.MaxHeight, -api.MaxHeight},
			{api.MaxHeight, -api.MaxHeight, -api.MaxHeight, api.MaxHeight},
		}, api.OK},
		{twisted(), 0, []int{api.MaxHeight + 1, 0}, nil, api.ErrArg},
		{twisted(), 0, []int{0, -api.MaxHeight - 1}, nil, api.ErrArg},
		{twisted(), 0, []int{leastInt, mostInt}, nil, api.ErrArg},
		{twisted(), 0, []int{5}, nil, api.ErrArg},
		{twisted(), 0, []int{5, 7, 0}, nil, api.ErrArg},
		{twisted(), 0, nil, nil, api.ErrArg},
		{straight(), 0, []int{0}, nil, api.ErrArg},
		{two, 0, []int{1, 2, 3}, nil, api.ErrArg}, // one more than Freedom says
	} {
		plates, e := plate.Shape(c.s, c.which, c.heights)
		if !sameLists(plates, c.want) || e != c.e {
			t.Error("P3.9: Shape:", i, plates, e)
		}
	}
}

func TestShape(t *testing.T) {
	r := rand.New(rand.NewSource(9))
	for _, s := range shops(200, api.MaxGrid, 6) {
		for which := range s.Plates {
			least, ways := classesOf(s, which)
			var heights []int
			want := make([]int, len(least))
			for cell, first := range least {
				if first == cell && ways[cell] != 0 {
					want[cell] = r.Intn(2*api.MaxHeight+1) - api.MaxHeight
					heights = append(heights, want[cell])
				}
				want[cell] = ways[cell] * want[first]
			}
			plates, e := plate.Shape(s, which, heights)
			if e != api.OK || !slices.Equal(plates[which], want) {
				t.Fatal("P3.9: Shape:", s, which, heights, plates, e)
			}
			if fits, e := plate.Fits(s, plates); !fits || e != api.OK {
				t.Fatal("P3.15: what Shape returns fits:", s, which, plates, e)
			}
			checkOthers(t, s, which, plates)
		}
	}
}

// checkOthers looks at the plates that Shape tells beside the one that it is asked for.
func checkOthers(t *testing.T, s api.Shop, which int, plates [][]int) {
	t.Helper()
	near, _ := plate.Reach(s, which)
	for other, heights := range plates {
		if len(heights) != s.Side*s.Side {
			t.Fatal("P3.9: Shape:", s, which, plates)
		}
		if !slices.Contains(near, other) && slices.ContainsFunc(heights, func(h int) bool { return h != 0 }) {
			t.Fatal("P3.9: Shape of a plate that is not reached:", s, which, other, heights)
		}
	}
	for i, w := range s.Workings {
		if sum, e := plate.Sum(s, i, plates); sum != 0 || e != api.OK {
			t.Fatal("P3.9: Shape: heights are opposite across a step:", s, which, w, sum, e)
		}
	}
}

// platesOf calls a function with all plates whose heights are from 0 to most.
func platesOf(s api.Shop, most int, visit func(plates [][]int)) {
	plates := zeros(s)
	cells := s.Side * s.Side
	var fill func(at int)
	fill = func(at int) {
		if at == s.Plates*cells {
			visit(plates)
			return
		}
		for h := range most + 1 {
			plates[at/cells][at%cells] = h
			fill(at + 1)
		}
	}
	fill(0)
}

// TestAllPlatesThatFit looks at all plates with low heights: what is told of them has to be true of each.
func TestAllPlatesThatFit(t *testing.T) {
	r := rand.New(rand.NewSource(10))
	for range 60 {
		s := randomShop(r, 2, 2+r.Intn(2), r.Intn(4))
		most := 4 - s.Plates
		flat := make([]bool, s.Plates)
		for which := range flat {
			flat[which] = isFlat(t, s, which)
		}
		uneven := make([]bool, s.Plates)
		platesOf(s, most, func(plates [][]int) {
			if fits, _ := plate.Fits(s, plates); !fits {
				return
			}
			for which, heights := range plates {
				uneven[which] = uneven[which] || slices.Min(heights) != slices.Max(heights)
				checkClasses(t, s, which, heights)
			}
		})
		for which := range flat {
			if flat[which] && uneven[which] {
				t.Fatal("P3.8: a plate that is said to be flat is not:", s, which)
			}
			if !flat[which] {
				checkUneven(t, s, which)
			}
		}
	}
}

// checkClasses holds the heights of a plate that fits against its classes, as multiples of the number of cells.
func checkClasses(t *testing.T, s api.Shop, which int, heights []int) {
	t.Helper()
	least, ways, e := plate.Classes(s, which)
	if e != api.OK {
		t.Fatal("P3.7: Classes:", s, which, e)
	}
	sum := 0
	for _, h := range heights {
		sum += h
	}
	for cell, h := range heights {
		if h*len(heights)-sum != ways[cell]*(heights[least[cell]]*len(heights)-sum) {
			t.Fatal("P3.15: Classes of plates that fit:", s, which, heights, cell)
		}
	}
}

// checkUneven looks for a shape that fits, and is not flat.
func checkUneven(t *testing.T, s api.Shop, which int) {
	t.Helper()
	least, ways := classesOf(s, which)
	var heights []int
	for cell, first := range least {
		if first == cell && ways[cell] != 0 {
			heights = append(heights, 0)
		}
	}
	for i := range heights {
		heights[i] = 1
		plates, e := plate.Shape(s, which, heights)
		if fits, _ := plate.Fits(s, plates); !fits || e != api.OK {
			t.Fatal("P3.16: what Shape returns fits:", s, which, heights, e)
		}
		if slices.Min(plates[which]) != slices.Max(plates[which]) {
			return
		}
		heights[i] = 0
	}
	t.Fatal("P3.16: a plate that is not surely flat is flat in each Shape:", s, which)
}

func TestHelpsExamples(t *testing.T) {
	l, e := plate.Helps(twisted(), 0)
	if !slices.Contains(l, work(0, 1, 1)) || slices.Contains(l, work(0, 1, 0)) || e != api.OK {
		t.Error("P3.11: Helps:", l, e)
	}
	var every []api.Working
	for _, pair := range [][2]int{{0, 1}, {0, 2}, {1, 2}} {
		for turn := range api.Turns {
			every = append(every, work(pair[0], pair[1], turn))
		}
	}
	for which := range 3 {
		if l, e := plate.Helps(straight(), which); !slices.Equal(l, every) || e != api.OK {
			t.Error("P3.11: Helps of a plate that is flat:", which, l, e)
		}
	}
	if l, e := plate.Helps(shop(1, 3), 2); !slices.Equal(l, every) || e != api.OK {
		t.Error("P3.11: Helps with a single cell:", l, e)
	}
	for _, s := range []api.Shop{shop(2, 1), shop(1, 1), shop(2, 2), shop(6, 6)} {
		if l, e := plate.Helps(s, 0); len(l) != 0 || e != api.OK {
			t.Error("P3.11: Helps where no working does:", s, l, e)
		}
	}
}

func TestHelps(t *testing.T) {
	r := rand.New(rand.NewSource(11))
	for i := range 24 {
		s := randomShop(r, 1+r.Intn(3), 2+r.Intn(3), r.Intn(6))
		if i%4 == 0 {
			s = fullShop(i / 4)
		}
		which := r.Intn(s.Plates)
		var want []api.Working
		for a := range s.Plates {
			for b := a + 1; b < s.Plates; b++ {
				for turn := range api.Turns {
					w := work(a, b, turn)
					more := shop(s.Side, s.Plates, slices.Concat(s.Workings, []api.Working{w})...)
					helps := freedomOf(more, which) == 0
					if helps {
						want = append(want, w)
					}
					if with, e := plate.With(s, w); e == api.OK && isFlat(t, with, which) != helps {
						t.Fatal("P3.18: With of a working:", s, which, w, helps)
					}
				}
			}
		}
		if l, e := plate.Helps(s, which); !slices.Equal(l, want) || e != api.OK {
			t.Fatal("P3.11: Helps:", s, which, l, e, want)
		}
	}
}

// fullShop has as many workings as there may be, so that none can be added with With.
func fullShop(turn int) api.Shop {
	return shop(2, 3, slices.Repeat([]api.Working{work(0, 1, 4), work(1, 2, 4), work(1, 0, turn), work(2, 1, turn)}, api.MaxWorkings/4)...)
}

// TestMoreWorkings adds one working after the other.
func TestMoreWorkings(t *testing.T) {
	r := rand.New(rand.NewSource(12))
	for range 100 {
		whole := randomShop(r, 1+r.Intn(api.MaxGrid), 2+r.Intn(5), api.MaxWorkings)
		s := shop(whole.Side, whole.Plates)
		for _, w := range whole.Workings {
			more, e := plate.With(s, w)
			if e != api.OK {
				t.Fatal("P3.2: With:", s, w, e)
			}
			for which := range s.Plates {
				later := signs(t, more, which)
				if slices.ContainsFunc(signs(t, s, which), func(x api.Sign) bool { return !slices.Contains(later, x) }) {
					t.Fatal("P3.18: a sign is lost:", s, w, which)
				}
				if freedom(t, more, which) > freedom(t, s, which) || isFlat(t, s, which) && !isFlat(t, more, which) {
					t.Fatal("P3.18: a working makes a plate less known:", s, w, which)
				}
			}
			s = more
		}
	}
}
