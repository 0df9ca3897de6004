package plate

import (
	"slices"

	"wringing/api"
)

// state is what a walk from a certain plate has come to: a plate, and the walk's sign.
type state struct {
	plate int
	sign  api.Sign
}

// arrival is the last step of a walk, and the state in front of it.
type arrival struct {
	from state
	step int
}

// walks tells all states to which walks from a plate lead, and for each one the first of its shortest walks.
type walks struct {
	states   []state // the one without steps comes first
	arrivals map[state]arrival
}

// Follow returns the plate, and the sign, to which a walk through workings leads.
func Follow(s api.Shop, plate int, walk []int) (int, api.Sign, api.Errno) {
	if e := checkPlate(s, plate); e != api.OK {
		return 0, api.Sign{}, e
	}
	if e := checkSteps(s, walk); e != api.OK {
		return 0, api.Sign{}, e
	}
	end, ok := follow(s, plate, walk)
	if !ok {
		return 0, api.Sign{}, api.ErrProof
	}
	return end.plate, end.sign, api.OK
}

// Reach returns the plates that workings connect with a plate.
func Reach(s api.Shop, plate int) ([]int, api.Errno) {
	if e := checkPlate(s, plate); e != api.OK {
		return nil, e
	}
	var plates []int
	for _, at := range walksFrom(s, plate).states {
		plates = append(plates, at.plate)
	}
	slices.Sort(plates)
	return slices.Compact(plates), api.OK
}

// Signs returns the signs of all closed walks from a plate.
func Signs(s api.Shop, plate int) ([]api.Sign, api.Errno) {
	if e := checkPlate(s, plate); e != api.OK {
		return nil, e
	}
	return walksFrom(s, plate).signs(), api.OK
}

// Walk returns a shortest closed walk with a sign.
func Walk(s api.Shop, plate int, sign api.Sign) ([]int, api.Errno) {
	if e := checkPlate(s, plate); e != api.OK {
		return nil, e
	}
	if !isTurn(sign.Turn) {
		return nil, api.ErrArg
	}
	w := walksFrom(s, plate)
	if !w.has(sign) {
		return nil, api.ErrNone
	}
	return w.closed(sign), api.OK
}

// checkSteps checks what lists have to be before they are followed as walks.
func checkSteps(s api.Shop, lists ...[]int) api.Errno {
	for _, l := range lists {
		if len(l) > api.MaxWalk {
			return api.ErrLimit
		}
	}
	for _, l := range lists {
		for _, step := range l {
			if !isIndex(workingOf(step), len(s.Workings)) {
				return api.ErrArg
			}
		}
	}
	return api.OK
}

// follow returns what a list of steps comes to, if it is a walk from a plate.
func follow(s api.Shop, plate int, walk []int) (state, bool) {
	at := state{plate: plate}
	for _, step := range walk {
		next, ok := advance(s, at, step)
		if !ok {
			return state{}, false
		}
		at = next
	}
	return at, true
}

// advance returns the state behind a step, if this begins at the state's plate.
func advance(s api.Shop, at state, step int) (state, bool) {
	w := s.Workings[workingOf(step)]
	if step < 0 {
		w = api.Working{A: w.B, B: w.A, Turn: inverse(w.Turn)}
	}
	if w.A != at.plate {
		return state{}, false
	}
	return state{w.B, api.Sign{Turn: compose(at.sign.Turn, w.Turn), Minus: !at.sign.Minus}}, true
}

// workingOf returns the index of the working of a step.
func workingOf(step int) int {
	if step < 0 {
		return -1 - step
	}
	return step
}

// walksFrom goes through the states in the order of their walks, and through the steps from the least one on, so that the walk that comes to a state before all others is the first one of the shortest ones.
func walksFrom(s api.Shop, plate int) walks {
	start := state{plate: plate}
	w := walks{states: []state{start}, arrivals: map[state]arrival{start: {}}}
	for i := 0; i < len(w.states); i++ {
		at := w.states[i]
		for step := -len(s.Workings); step < len(s.Workings); step++ {
			next, ok := advance(s, at, step)
			if !ok {
				continue
			}
			if _, known := w.arrivals[next]; !known {
				w.arrivals[next] = arrival{at, step}
				w.states = append(w.states, next)
			}
		}
	}
	return w
}

// end is the state of the closed walks with a sign.
func (w walks) end(sign api.Sign) state { return state{w.states[0].plate, sign} }

// has reports whether there is a closed walk with a sign.
func (w walks) has(sign api.Sign) bool {
	_, ok := w.arrivals[w.end(sign)]
	return ok
}

// closed returns the closed walk with a sign that there has to be.
func (w walks) closed(sign api.Sign) []int {
	var walk []int
	for at := w.end(sign); at != w.states[0]; {
		last := w.arrivals[at]
		walk = append(walk, last.step)
		at = last.from
	}
	slices.Reverse(walk)
	return walk
}

// signs returns the signs of all closed walks in their order.
func (w walks) signs() []api.Sign {
	var all []api.Sign
	for turn := range api.Turns {
		for _, minus := range [...]bool{false, true} {
			if sign := (api.Sign{Turn: turn, Minus: minus}); w.has(sign) {
				all = append(all, sign)
			}
		}
	}
	return all
}
