package plate_test

import (
	"math/rand"
	"reflect"
	"slices"
	"testing"

	"wringing/api"
	"wringing/plate"
)

const (
	leastInt = -1 << 63
	mostInt  = 1<<63 - 1
)

func work(a, b, turn int) api.Working { return api.Working{A: a, B: b, Turn: turn} }

func shop(side, plates int, w ...api.Working) api.Shop {
	return api.Shop{Side: side, Plates: plates, Workings: w}
}

func sign(turn int, minus bool) api.Sign { return api.Sign{Turn: turn, Minus: minus} }

// straight is the shop s of the chapter, twisted is the shop m, and crossed is m with one more working.
func straight() api.Shop { return shop(2, 3, work(0, 1, 0), work(1, 2, 0), work(2, 0, 0)) }

func twisted() api.Shop { return shop(2, 3, work(0, 1, 0), work(1, 2, 0), work(2, 0, 4)) }

func crossed() api.Shop {
	return shop(2, 3, work(0, 1, 0), work(1, 2, 0), work(2, 0, 4), work(0, 1, 1))
}

// badShops are shops that are not valid, with what Check returns for them.
func badShops() []struct {
	s api.Shop
	e api.Errno
} {
	good := work(0, 1, 0)
	long := slices.Repeat([]api.Working{good}, api.MaxWorkings+1)
	longBad := slices.Concat([]api.Working{work(9, 9, 9)}, long)
	return []struct {
		s api.Shop
		e api.Errno
	}{
		{api.Shop{}, api.ErrArg},
		{shop(0, 2), api.ErrArg},
		{shop(-1, 2), api.ErrArg},
		{shop(api.MaxGrid+1, 2), api.ErrArg},
		{shop(leastInt, 2), api.ErrArg},
		{shop(mostInt, 2), api.ErrArg},
		{shop(2, 0), api.ErrArg},
		{shop(2, -1), api.ErrArg},
		{shop(2, api.MaxPlates+1), api.ErrArg},
		{shop(2, leastInt), api.ErrArg},
		{shop(2, mostInt), api.ErrArg},
		{shop(0, 2, long...), api.ErrArg},
		{shop(2, 7, long...), api.ErrArg},
		{shop(2, 2, long...), api.ErrLimit},
		{shop(2, 2, longBad...), api.ErrLimit},
		{shop(2, 1, good), api.ErrArg},
		{shop(2, 2, good, work(1, 1, 0)), api.ErrArg},
		{shop(2, 2, work(-1, 1, 0), good), api.ErrArg},
		{shop(2, 2, work(2, 1, 0)), api.ErrArg},
		{shop(2, 2, work(0, 2, 0)), api.ErrArg},
		{shop(2, 2, work(0, -1, 0)), api.ErrArg},
		{shop(2, 2, work(0, 1, -1)), api.ErrArg},
		{shop(2, 2, work(0, 1, api.Turns)), api.ErrArg},
		{shop(2, 2, work(leastInt, mostInt, leastInt)), api.ErrArg},
		{shop(2, 2, slices.Concat(long[:api.MaxWorkings-1], []api.Working{work(0, 1, mostInt)})...), api.ErrArg},
	}
}

func randomShop(r *rand.Rand, side, plates, workings int) api.Shop {
	s := shop(side, plates)
	for plates > 1 && len(s.Workings) < workings {
		a, b := r.Intn(plates), r.Intn(plates)
		if a != b {
			s.Workings = append(s.Workings, work(a, b, r.Intn(api.Turns)))
		}
	}
	return s
}

// shops are always the same shops, of all sizes up to a side and a number of plates.
func shops(count, side, plates int) []api.Shop {
	r := rand.New(rand.NewSource(5))
	l := []api.Shop{straight(), twisted(), crossed(), shop(1, 1), shop(2, 1), shop(1, 2, work(0, 1, 5))}
	for range count {
		l = append(l, randomShop(r, 1+r.Intn(side), 1+r.Intn(plates), r.Intn(api.MaxWorkings+1)))
		l = append(l, randomShop(r, 1+r.Intn(side), 1+r.Intn(plates), r.Intn(5)))
	}
	return l
}

// calls are all functions with a shop but Check. Their other arguments are taken as they are, valid or not.
func calls(which int, turned api.Sign, l []int, lists [][]int, w api.Working) []call {
	return []call{
		{"Sum", func(s api.Shop) (any, api.Errno) { return pair(plate.Sum(s, which, lists)) }},
		{"Fits", func(s api.Shop) (any, api.Errno) { return pair(plate.Fits(s, lists)) }},
		{"Follow", func(s api.Shop) (any, api.Errno) {
			to, sign, e := plate.Follow(s, which, l)
			return struct {
				To   int
				Sign api.Sign
			}{to, sign}, e
		}},
		{"Reach", func(s api.Shop) (any, api.Errno) { return pair(plate.Reach(s, which)) }},
		{"Signs", func(s api.Shop) (any, api.Errno) { return pair(plate.Signs(s, which)) }},
		{"Walk", func(s api.Shop) (any, api.Errno) { return pair(plate.Walk(s, which, turned)) }},
		{"Classes", func(s api.Shop) (any, api.Errno) {
			least, ways, e := plate.Classes(s, which)
			return [2][]int{least, ways}, e
		}},
		{"Freedom", func(s api.Shop) (any, api.Errno) { return pair(plate.Freedom(s, which)) }},
		{"Flat", func(s api.Shop) (any, api.Errno) { return pair(plate.Flat(s, which)) }},
		{"Shape", func(s api.Shop) (any, api.Errno) { return pair(plate.Shape(s, which, l)) }},
		{"Prove", func(s api.Shop) (any, api.Errno) { return pair(plate.Prove(s, which)) }},
		{"CheckProof", func(s api.Shop) (any, api.Errno) { return nil, plate.CheckProof(s, which, lists) }},
		{"Helps", func(s api.Shop) (any, api.Errno) { return pair(plate.Helps(s, which)) }},
		{"With", func(s api.Shop) (any, api.Errno) { return pair(plate.With(s, w)) }},
		{"Print", func(s api.Shop) (any, api.Errno) { return pair(plate.Print(s)) }},
	}
}

// call is a function of the package with a shop, with its other arguments.
type call struct {
	name string
	run  func(s api.Shop) (any, api.Errno)
}

func pair[T any](x T, e api.Errno) (any, api.Errno) { return x, e }

// isNothing reports whether a result is a zero value, where an empty list is one, too.
func isNothing(x any) bool {
	if x == nil {
		return true
	}
	if both, ok := x.([2][]int); ok {
		return len(both[0]) == 0 && len(both[1]) == 0
	}
	v := reflect.ValueOf(x)
	if v.Kind() == reflect.Slice {
		return v.Len() == 0
	}
	return v.IsZero()
}

func same(a, b api.Shop) bool {
	return a.Side == b.Side && a.Plates == b.Plates && slices.Equal(a.Workings, b.Workings)
}

func sameLists(a, b [][]int) bool { return slices.EqualFunc(a, b, slices.Equal[[]int]) }

// zeros are plates without any height.
func zeros(s api.Shop) [][]int {
	var plates [][]int
	for range s.Plates {
		plates = append(plates, make([]int, s.Side*s.Side))
	}
	return plates
}

// cellOf is the table of turns, as the chapter has it.
func cellOf(n, turn, cell int) int {
	r, c := cell/n, cell%n
	at := [api.Turns][2]int{
		{r, c}, {c, n - 1 - r}, {n - 1 - r, n - 1 - c}, {n - 1 - c, r},
		{r, n - 1 - c}, {c, r}, {n - 1 - r, c}, {n - 1 - c, n - 1 - r},
	}[turn]
	return at[0]*n + at[1]
}

// after is the turn that takes each cell as one turn and then another one do, found by trying.
func after(a, b int) int {
	for turn := range api.Turns {
		if cellOf(2, turn, 0) == cellOf(2, b, cellOf(2, a, 0)) && cellOf(2, turn, 1) == cellOf(2, b, cellOf(2, a, 1)) {
			return turn
		}
	}
	return -1
}

func undo(a int) int {
	for turn := range api.Turns {
		if after(a, turn) == 0 {
			return turn
		}
	}
	return -1
}

func both(a, b api.Sign) api.Sign { return sign(after(a.Turn, b.Turn), a.Minus != b.Minus) }

// signsOf returns the signs of a plate in another way than the package: each plate that can be reached gets the sign of some walk to it; each working then closes a walk, and the signs of these have all others as products.
func signsOf(s api.Shop, from int) []api.Sign {
	to := map[int]api.Sign{from: {}}
	for range s.Plates {
		for _, w := range s.Workings {
			a, okA := to[w.A]
			b, okB := to[w.B]
			if okA && !okB {
				to[w.B] = both(a, sign(w.Turn, true))
			}
			if okB && !okA {
				to[w.A] = both(b, sign(undo(w.Turn), true))
			}
		}
	}
	group := map[api.Sign]bool{{}: true}
	for range 16 {
		for _, w := range s.Workings {
			a, ok := to[w.A]
			if !ok {
				continue
			}
			closed := both(both(a, sign(w.Turn, true)), sign(undo(to[w.B].Turn), to[w.B].Minus))
			for x := range all() {
				if group[x] {
					group[both(x, closed)] = true
				}
			}
		}
	}
	var l []api.Sign
	for x := range all() {
		if group[x] {
			l = append(l, x)
		}
	}
	return l
}

// all goes through all signs in their order.
func all() func(yield func(api.Sign) bool) {
	return func(yield func(api.Sign) bool) {
		for turn := range api.Turns {
			if !yield(sign(turn, false)) || !yield(sign(turn, true)) {
				return
			}
		}
	}
}

// freedomOf returns how many heights of a plate can be chosen, up to the mean, as a number of dimensions: of all plates that fit, less those of the plates that fit and in which this one is flat.
func freedomOf(s api.Shop, which int) int {
	cells := s.Side * s.Side
	unknowns := s.Plates*cells + len(s.Workings)
	var rows [][]int
	for i, w := range s.Workings {
		for x := range cells {
			row := make([]int, unknowns)
			row[w.A*cells+x] = 1
			row[w.B*cells+cellOf(s.Side, w.Turn, x)] = 1
			row[s.Plates*cells+i] = -1
			rows = append(rows, row)
		}
	}
	fitting := rank(rows)
	for x := 1; x < cells; x++ {
		row := make([]int, unknowns)
		row[which*cells], row[which*cells+x] = 1, -1
		rows = append(rows, row)
	}
	return rank(rows) - fitting
}

// rank returns the rank of a matrix modulo a great prime, which is as good as without it for so small numbers.
func rank(rows [][]int) int {
	const prime = 1<<31 - 1
	var l [][]int
	for _, row := range rows {
		l = append(l, slices.Clone(row))
	}
	found := 0
	for column := 0; len(l) > found && column < len(l[0]); column++ {
		pivot := found
		for pivot < len(l) && l[pivot][column]%prime == 0 {
			pivot++
		}
		if pivot == len(l) {
			continue
		}
		l[found], l[pivot] = l[pivot], l[found]
		first := l[found]
		inverse := power(first[column], prime-2, prime)
		for _, row := range l[found+1:] {
			factor := row[column] % prime * inverse % prime
			for i := column; factor != 0 && i < len(row); i++ {
				row[i] = (row[i] - factor*first[i]%prime) % prime
			}
		}
		found++
	}
	return found
}

func power(n, times, prime int) int {
	n, result := (n%prime+prime)%prime, 1
	for ; times > 0; times /= 2 {
		if times%2 == 1 {
			result = result * n % prime
		}
		n = n * n % prime
	}
	return result
}

// proved reports whether signs prove that a plate is flat, by the words of the chapter: it goes over joints from each cell, and tells even and odd ways apart.
func proved(side int, signs []api.Sign) bool {
	minus := slices.ContainsFunc(signs, func(x api.Sign) bool { return x.Minus })
	for start := range side * side {
		type place struct {
			cell int
			odd  bool
		}
		seen := map[place]bool{{start, false}: true}
		queue := []place{{start, false}}
		for len(queue) > 0 {
			at := queue[0]
			queue = queue[1:]
			for _, x := range signs {
				for _, turn := range []int{x.Turn, undo(x.Turn)} {
					next := place{cellOf(side, turn, at.cell), at.odd != x.Minus}
					if !seen[next] {
						seen[next] = true
						queue = append(queue, next)
					}
				}
			}
		}
		if minus && !seen[place{start, true}] || !minus && len(seen) != side*side {
			return false
		}
	}
	return true
}

// ends returns the plate to which a list leads, and its sign, if it is a walk.
func ends(s api.Shop, from int, walk []int) (int, api.Sign, bool) {
	at := api.Sign{}
	for _, step := range walk {
		var w api.Working
		if step >= 0 {
			w = s.Workings[step]
		} else {
			w = s.Workings[-1-step]
			w = work(w.B, w.A, undo(w.Turn))
		}
		if w.A != from {
			return 0, api.Sign{}, false
		}
		from, at = w.B, both(at, sign(w.Turn, true))
	}
	return from, at, true
}

func signs(t *testing.T, s api.Shop, which int) []api.Sign {
	t.Helper()
	l, e := plate.Signs(s, which)
	if e != api.OK {
		t.Fatal("P3.5: Signs:", s, which, e)
	}
	return l
}

func freedom(t *testing.T, s api.Shop, which int) int {
	t.Helper()
	n, e := plate.Freedom(s, which)
	if e != api.OK {
		t.Fatal("P3.7: Freedom:", s, which, e)
	}
	return n
}

func isFlat(t *testing.T, s api.Shop, which int) bool {
	t.Helper()
	flat, e := plate.Flat(s, which)
	if e != api.OK {
		t.Fatal("P3.8: Flat:", s, which, e)
	}
	return flat
}
