package plate_test

import (
	"math/rand"
	"slices"
	"testing"

	"wringing/api"
	"wringing/plate"
)

func TestCheck(t *testing.T) {
	for i, c := range badShops() {
		if e := plate.Check(c.s); e != c.e {
			t.Error("P3.2: Check:", i, e)
		}
	}
	full := slices.Repeat([]api.Working{work(5, 4, 7)}, api.MaxWorkings)
	for i, s := range []api.Shop{
		shop(1, 1), shop(6, 6, full...), shop(2, 2, work(1, 0, 0), work(0, 1, 7)), straight(), twisted(), crossed(),
		{Side: 2, Plates: 2, Workings: []api.Working{}},
	} {
		if e := plate.Check(s); e != api.OK {
			t.Error("P3.2: Check:", i, e)
		}
	}
}

// TestErrorOfCheckComesFirst gives invalid shops together with other arguments, valid and invalid ones.
func TestErrorOfCheckComesFirst(t *testing.T) {
	long := make([]int, api.MaxWalk+1)
	for i, c := range badShops() {
		for _, f := range slices.Concat(
			calls(0, sign(0, false), nil, zeros(shop(2, 2)), work(0, 1, 0)),
			calls(-1, sign(9, true), long, slices.Repeat([][]int{long}, api.MaxWalks+1), work(0, 0, 0)),
		) {
			if x, e := f.run(c.s); e != c.e || !isNothing(x) {
				t.Error("P3.2: the error of Check:", f.name, i, x, e)
			}
		}
	}
}

// TestErrorOfPlateComesSecond gives numbers that are not those of a plate or a working, together with further invalid arguments.
func TestErrorOfPlateComesSecond(t *testing.T) {
	long := make([]int, api.MaxWalk+1)
	for _, which := range []int{-1, 3, 6, leastInt, mostInt} {
		for _, f := range slices.Concat(
			calls(which, sign(0, false), nil, zeros(straight()), work(0, 1, 0)),
			calls(which, sign(9, true), long, slices.Repeat([][]int{long}, api.MaxWalks+1), work(0, 0, 0)),
		) {
			if slices.Contains([]string{"Fits", "With", "Print"}, f.name) {
				continue
			}
			if x, e := f.run(straight()); e != api.ErrArg || !isNothing(x) {
				t.Error("P3.3 to P3.11: a wrong plate or working:", f.name, which, x, e)
			}
		}
	}
}

func TestWith(t *testing.T) {
	full := shop(2, 2, slices.Repeat([]api.Working{work(0, 1, 0)}, api.MaxWorkings)...)
	nearly := shop(2, 2, full.Workings[1:]...)
	fullBad := shop(2, 2, slices.Concat(nearly.Workings, []api.Working{work(1, 1, 0)})...)
	for i, c := range []struct {
		s    api.Shop
		w    api.Working
		want api.Shop
		e    api.Errno
	}{
		{twisted(), work(0, 1, 1), crossed(), api.OK},
		{nearly, work(0, 1, 0), full, api.OK},
		{shop(2, 3), work(2, 0, 7), shop(2, 3, work(2, 0, 7)), api.OK},
		{full, work(0, 1, 0), api.Shop{}, api.ErrLimit},
		{full, work(0, 0, 0), api.Shop{}, api.ErrLimit},
		{nearly, work(0, 2, 0), api.Shop{}, api.ErrArg},
		{straight(), work(1, 1, 0), api.Shop{}, api.ErrArg},
		{straight(), work(0, 3, 0), api.Shop{}, api.ErrArg},
		{straight(), work(-1, 2, 0), api.Shop{}, api.ErrArg},
		{straight(), work(0, 1, 8), api.Shop{}, api.ErrArg},
		{shop(2, 1), work(0, 0, 0), api.Shop{}, api.ErrArg},
		{fullBad, work(0, 1, 0), api.Shop{}, api.ErrArg}, // the error of the shop itself comes first
	} {
		if s, e := plate.With(c.s, c.w); !same(s, c.want) || e != c.e {
			t.Error("P3.2: With:", i, s, e)
		}
	}
}

func TestSumExamples(t *testing.T) {
	s := shop(2, 3, work(0, 1, 0), work(0, 1, 1), work(2, 1, 5))
	plates := [][]int{{1, 2, 3, 4}, {9, 8, 7, 6}, {-1, 0, 3, 4}}
	high, low := slices.Repeat([]int{api.MaxHeight}, 4), slices.Repeat([]int{-api.MaxHeight}, 4)
	for i, c := range []struct {
		which  int
		plates [][]int
		sum    int
		e      api.Errno
	}{
		{0, plates, 10, api.OK},
		{1, plates, 0, api.ErrNone}, // cells 0 1 2 3 lie against 1 3 0 2: 9 8 12 11
		{2, plates, 0, api.ErrNone},
		{2, [][]int{{0, 0, 0, 0}, {1, 5, 3, 7}, {2, 0, -2, -4}}, 3, api.OK},
		{0, [][]int{high, high, low}, 2 * api.MaxHeight, api.OK},
		{2, [][]int{low, low, low}, -2 * api.MaxHeight, api.OK},
		{1, [][]int{high, low, low}, 0, api.OK},
		{3, plates, 0, api.ErrArg},
		{-1, plates, 0, api.ErrArg},
	} {
		if sum, e := plate.Sum(s, c.which, c.plates); sum != c.sum || e != c.e {
			t.Error("P3.3: Sum:", i, sum, e)
		}
	}
	if sum, e := plate.Sum(shop(2, 2), 0, zeros(shop(2, 2))); sum != 0 || e != api.ErrArg {
		t.Error("P3.3: Sum without workings:", sum, e)
	}
}

func TestInvalidPlates(t *testing.T) {
	zero := make([]int, 4)
	for i, plates := range [][][]int{
		nil, {}, {zero, zero}, {zero, zero, zero, zero}, {zero, zero, nil}, {zero, zero, zero[:3]}, {zero, make([]int, 5), zero},
		{{0, 0, 0, api.MaxHeight + 1}, zero, zero}, {zero, zero, {-api.MaxHeight - 1, 0, 0, 0}},
		{{0, 0, leastInt, 0}, zero, zero}, {{0, mostInt, 0, 0}, zero, zero}, {{0, 1, 2, 3}, zero, {mostInt, 0, 0, 0}},
	} {
		if sum, e := plate.Sum(straight(), 0, plates); sum != 0 || e != api.ErrArg {
			t.Error("P3.3: Sum of invalid plates:", i, sum, e)
		}
		if fits, e := plate.Fits(straight(), plates); fits || e != api.ErrArg {
			t.Error("P3.3: Fits of invalid plates:", i, fits, e)
		}
		if fits, e := plate.Fits(shop(2, 3), plates); fits || e != api.ErrArg {
			t.Error("P3.3: Fits of invalid plates without workings:", i, fits, e)
		}
	}
}

func TestFits(t *testing.T) {
	for i, c := range []struct {
		s      api.Shop
		plates [][]int
		want   bool
	}{
		{twisted(), [][]int{{5, -5, 7, -7}, {-5, 5, -7, 7}, {5, -5, 7, -7}}, true},
		{twisted(), [][]int{{6, -4, 8, -6}, {-8, 2, -10, 4}, {5, -5, 7, -7}}, true}, // each plate as high as it likes
		{twisted(), [][]int{{5, -5, 7, -7}, {-5, 5, -7, 7}, {5, -5, 7, -8}}, false},
		{twisted(), [][]int{{5, -5, 7, 7}, {-5, 5, -7, -7}, {5, -5, 7, 7}}, false}, // the last working alone does not touch
		{straight(), zeros(straight()), true},
		{straight(), [][]int{{5, -5, 7, -7}, {-5, 5, -7, 7}, {5, -5, 7, -7}}, false},
		{shop(2, 2), [][]int{{1, 2, 3, 4}, {4, -4, 0, 9}}, true},
		{shop(1, 2, work(0, 1, 3)), [][]int{{api.MaxHeight}, {-api.MaxHeight}}, true},
	} {
		if fits, e := plate.Fits(c.s, c.plates); fits != c.want || e != api.OK {
			t.Error("P3.3: Fits:", i, fits, e)
		}
	}
}

// TestFitsIsSumOfAll gives plates that touch here and there.
func TestFitsIsSumOfAll(t *testing.T) {
	r := rand.New(rand.NewSource(6))
	for range 3000 {
		s := randomShop(r, 1+r.Intn(2), 2+r.Intn(2), r.Intn(4))
		plates := zeros(s)
		for _, heights := range plates {
			for cell := range heights {
				heights[cell] = r.Intn(8) / 6
			}
		}
		all := true
		for i, w := range s.Workings {
			first, touch := 0, true
			for x := range s.Side * s.Side {
				sum := plates[w.A][x] + plates[w.B][cellOf(s.Side, w.Turn, x)]
				if x == 0 {
					first = sum
				}
				touch = touch && sum == first
			}
			sum, e := plate.Sum(s, i, plates)
			if touch && (sum != first || e != api.OK) || !touch && (sum != 0 || e != api.ErrNone) {
				t.Fatal("P3.3: Sum:", s, i, plates, sum, e)
			}
			all = all && touch
		}
		if fits, e := plate.Fits(s, plates); fits != all || e != api.OK {
			t.Fatal("P3.15: Fits:", s, plates, fits, e)
		}
	}
}

func TestGaps(t *testing.T) {
	a, b := []int{1, 0, 0, 0}, []int{0, 0, 0, 3}
	high, low := []int{api.MaxHeight}, []int{-api.MaxHeight}
	for i, c := range []struct {
		side int
		a, b []int
		turn int
		want []int
	}{
		{2, a, b, 0, []int{2, 3, 3, 0}},
		{2, a, b, 2, []int{0, 4, 4, 4}},
		{2, a, b, 1, []int{2, 0, 3, 3}}, // the cell 1 lies against the cell 3
		{2, a, b, 3, []int{2, 3, 0, 3}},
		{2, a, a, 4, []int{0, 0, 1, 1}},
		{2, []int{5, -5, 7, -7}, []int{-5, 5, -7, 7}, 0, []int{0, 0, 0, 0}},
		{2, []int{5, -5, 7, -7}, []int{-5, 5, -7, 7}, 6, []int{4, 0, 0, 4}},
		{1, high, high, 7, []int{0}},
		{1, low, low, 0, []int{0}},
		{2, []int{api.MaxHeight, 0, 0, -api.MaxHeight}, []int{api.MaxHeight, 0, 0, -api.MaxHeight}, 0, []int{0, 2 * api.MaxHeight, 2 * api.MaxHeight, 4 * api.MaxHeight}},
	} {
		if gaps, e := plate.Gaps(c.side, c.a, c.b, c.turn); !slices.Equal(gaps, c.want) || e != api.OK {
			t.Error("P3.3: Gaps:", i, gaps, e)
		}
	}
	for side := 1; side <= api.MaxGrid; side++ {
		r := rand.New(rand.NewSource(int64(side)))
		for turn := range api.Turns {
			p, q := randomHeights(r, side), randomHeights(r, side)
			if gaps, e := plate.Gaps(side, p, q, turn); !slices.Equal(gaps, gapsOf(side, p, q, turn)) || e != api.OK {
				t.Error("P3.3: Gaps:", side, turn, p, q, gaps, e)
			}
		}
	}
}

func randomHeights(r *rand.Rand, side int) []int {
	heights := make([]int, side*side)
	for cell := range heights {
		heights[cell] = r.Intn(21) - 10
	}
	return heights
}

func gapsOf(side int, a, b []int, turn int) []int {
	var sums []int
	for x := range side * side {
		sums = append(sums, a[x]+b[cellOf(side, turn, x)])
	}
	greatest := slices.Max(sums)
	for x := range sums {
		sums[x] = greatest - sums[x]
	}
	return sums
}

func TestGapsRefuses(t *testing.T) {
	a := make([]int, 4)
	for i, c := range []struct {
		side int
		a, b []int
		turn int
	}{
		{0, nil, nil, 0}, {-2, a, a, 0}, {7, make([]int, 49), make([]int, 49), 0}, {leastInt, a, a, 0}, {1 << 32, nil, nil, 0},
		{2, a[:3], a, 0}, {2, a, a[:3], 0}, {2, a, make([]int, 5), 0}, {2, nil, nil, 0}, {3, a, a, 0},
		{2, []int{0, 0, 0, api.MaxHeight + 1}, a, 0}, {2, a, []int{-api.MaxHeight - 1, 0, 0, 0}, 0},
		{2, []int{leastInt, 0, 0, 0}, a, 0}, {2, a, []int{0, mostInt, 0, 0}, 0},
		{2, a, a, -1}, {2, a, a, 8}, {2, a, a, leastInt}, {2, a, a, mostInt},
	} {
		if gaps, e := plate.Gaps(c.side, c.a, c.b, c.turn); len(gaps) != 0 || e != api.ErrArg {
			t.Error("P3.3: Gaps:", i, gaps, e)
		}
	}
}
