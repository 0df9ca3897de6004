package plate

import (
	"slices"

	"wringing/api"
)

// Classes returns, for each cell of a plate, the least cell that has the same height, or the opposite one.
func Classes(s api.Shop, plate int) ([]int, []int, api.Errno) {
	if e := checkPlate(s, plate); e != api.OK {
		return nil, nil, e
	}
	least, ways := classes(s.Side, walksFrom(s, plate).signs())
	return least, ways, api.OK
}

// Freedom returns how many heights of a plate can be chosen.
func Freedom(s api.Shop, plate int) (int, api.Errno) {
	if e := checkPlate(s, plate); e != api.OK {
		return 0, e
	}
	return freedom(s.Side, walksFrom(s, plate).signs()), api.OK
}

// Flat reports whether a plate is surely flat.
func Flat(s api.Shop, plate int) (bool, api.Errno) {
	if e := checkPlate(s, plate); e != api.OK {
		return false, e
	}
	return flat(s, plate), api.OK
}

// Shape returns a plate that fits, by the heights of its free cells.
func Shape(s api.Shop, plate int, heights []int) ([][]int, api.Errno) {
	if e := checkPlate(s, plate); e != api.OK {
		return nil, e
	}
	w := walksFrom(s, plate)
	least, ways := classes(s.Side, w.signs())
	free := evenClasses(least, ways)
	if !validHeights(heights, len(free)) {
		return nil, api.ErrArg
	}
	shape := make([]int, len(least))
	for i, cell := range free {
		shape[cell] = heights[i]
	}
	// The least cell of a class comes first, and its way is 1 unless the class is pinned.
	for cell, way := range ways {
		shape[cell] = way * shape[least[cell]]
	}
	return spread(s, w, shape), api.OK
}

// Helps returns the workings behind which a plate would surely be flat.
func Helps(s api.Shop, plate int) ([]api.Working, api.Errno) {
	if e := checkPlate(s, plate); e != api.OK {
		return nil, e
	}
	var helps []api.Working
	for a := range s.Plates {
		for b := a + 1; b < s.Plates; b++ {
			for turn := range api.Turns {
				w := api.Working{A: a, B: b, Turn: turn}
				if flat(with(s, w), plate) {
					helps = append(helps, w)
				}
			}
		}
	}
	return helps, api.OK
}

func flat(s api.Shop, plate int) bool { return freedom(s.Side, walksFrom(s, plate).signs()) == 0 }

// freedom returns how many heights of a plate can be chosen, up to the mean, if no more than some signs of it are known.
func freedom(side int, signs []api.Sign) int {
	even := len(evenClasses(classes(side, signs)))
	if !slices.ContainsFunc(signs, func(sign api.Sign) bool { return sign.Minus }) {
		// One height only says what the mean is.
		even--
	}
	return even
}

// classes unites the cells that signs take to each other, directly or through others. It returns, for each cell, the least cell of its class, and how their heights go with each other: 1 if they are equal, -1 if they are opposite, and 0 if they are both, so that the class is pinned.
func classes(side int, signs []api.Sign) (least, ways []int) {
	for cell := range side * side {
		least = append(least, cell)
		ways = append(ways, 1)
	}
	unite := func(x, y, way int) {
		stays, goes := min(least[x], least[y]), max(least[x], least[y])
		across := ways[x] * way * ways[y]
		if stays == goes && across == -1 {
			across = 0
		}
		for cell, class := range least {
			switch class {
			case goes:
				least[cell] = stays
				ways[cell] *= across
			case stays:
				ways[cell] *= across * across
			}
		}
	}
	for _, sign := range signs {
		way := 1
		if sign.Minus {
			way = -1
		}
		for from, to := range moves(side, sign.Turn) {
			unite(from, to, way)
		}
	}
	return least, ways
}

// evenClasses returns the least cells of the classes that are not pinned.
func evenClasses(least, ways []int) []int {
	var even []int
	for cell, way := range ways {
		if least[cell] == cell && way != 0 {
			even = append(even, cell)
		}
	}
	return even
}

// spread gives the plates to which walks lead the shapes that follow from that of the plate where they begin. All walks to a plate say the same.
func spread(s api.Shop, w walks, shape []int) [][]int {
	plates := make([][]int, s.Plates)
	for i := range plates {
		plates[i] = make([]int, len(shape))
	}
	for _, at := range w.states {
		for from, to := range moves(s.Side, at.sign.Turn) {
			plates[at.plate][to] = shape[from]
			if at.sign.Minus {
				plates[at.plate][to] = -shape[from]
			}
		}
	}
	return plates
}
