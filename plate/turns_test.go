package plate_test

import (
	"slices"
	"testing"

	"wringing/api"
	"wringing/plate"
)

func TestTurnExample(t *testing.T) {
	var cells []int
	for turn := range api.Turns {
		cell, e := plate.Turn(4, turn, 1)
		if e != api.OK {
			t.Error("P3.1: Turn:", turn, e)
		}
		cells = append(cells, cell)
	}
	if !slices.Equal(cells, []int{1, 7, 14, 8, 2, 4, 13, 11}) {
		t.Error("P3.1: Turn:", cells)
	}
}

func TestTurn(t *testing.T) {
	for side := 1; side <= api.MaxGrid; side++ {
		for turn := range api.Turns {
			for cell := range side * side {
				if got, e := plate.Turn(side, turn, cell); got != cellOf(side, turn, cell) || e != api.OK {
					t.Error("P3.1: Turn:", side, turn, cell, got, e)
				}
			}
		}
	}
}

func TestTurnRefuses(t *testing.T) {
	for _, c := range [][3]int{
		{0, 0, 0}, {-1, 0, 0}, {7, 0, 0}, {leastInt, 0, 0}, {mostInt, 0, 0}, {1 << 32, 0, 0},
		{2, -1, 0}, {2, 8, 0}, {2, leastInt, 0}, {2, mostInt, 0},
		{2, 0, -1}, {2, 0, 4}, {1, 3, 1}, {6, 7, 36}, {2, 0, leastInt}, {2, 0, mostInt},
	} {
		if cell, e := plate.Turn(c[0], c[1], c[2]); cell != 0 || e != api.ErrArg {
			t.Error("P3.1: Turn:", c, cell, e)
		}
	}
}

func TestComposeInverse(t *testing.T) {
	if turn, e := plate.Compose(1, 4); turn != 5 || e != api.OK {
		t.Error("P3.1: Compose:", turn, e)
	}
	for a := range api.Turns {
		if turn, e := plate.Inverse(a); turn != undo(a) || turn != []int{0, 3, 2, 1, 4, 5, 6, 7}[a] || e != api.OK {
			t.Error("P3.1: Inverse:", a, turn, e)
		}
		for b := range api.Turns {
			if turn, e := plate.Compose(a, b); turn != after(a, b) || e != api.OK {
				t.Error("P3.1: Compose:", a, b, turn, e)
			}
		}
	}
	for _, bad := range []int{-1, 8, leastInt, mostInt} {
		if turn, e := plate.Inverse(bad); turn != 0 || e != api.ErrArg {
			t.Error("P3.1: Inverse:", bad, turn, e)
		}
		for _, pair := range [][2]int{{bad, 3}, {3, bad}, {bad, bad}} {
			if turn, e := plate.Compose(pair[0], pair[1]); turn != 0 || e != api.ErrArg {
				t.Error("P3.1: Compose:", pair, turn, e)
			}
		}
	}
}

// TestTurnsAreAGroup asks the package's functions alone.
func TestTurnsAreAGroup(t *testing.T) {
	compose := func(a, b int) int {
		turn, e := plate.Compose(a, b)
		if e != api.OK {
			t.Fatal("P3.13: Compose:", a, b, e)
		}
		return turn
	}
	for a := range api.Turns {
		back, _ := plate.Inverse(a)
		if compose(a, 0) != a || compose(0, a) != a || compose(a, back) != 0 || compose(back, a) != 0 {
			t.Error("P3.13: neutral and inverse turns:", a)
		}
		for b := range api.Turns {
			for c := range api.Turns {
				if compose(compose(a, b), c) != compose(a, compose(b, c)) {
					t.Error("P3.13: Compose is not associative:", a, b, c)
				}
			}
			for side := 1; side <= api.MaxGrid; side++ {
				for cell := range side * side {
					first, _ := plate.Turn(side, a, cell)
					second, _ := plate.Turn(side, b, first)
					if at, e := plate.Turn(side, compose(a, b), cell); at != second || e != api.OK {
						t.Error("P3.13: Turn with Compose:", side, a, b, cell, at, second, e)
					}
				}
			}
		}
	}
}
