package stack

import (
	"maps"
	"slices"

	"wringing/api"
)

const mostLengths = 1000 // lengths that Lengths returns

// Make returns the stack with the fewest blocks that has a wanted length.
func Make(box []api.Block, w api.Want) ([]int, api.Errno) {
	t, e := open(box, w)
	if e != api.OK {
		return nil, e
	}
	best, ok := earliest(t.good(), t.compare)
	if !ok {
		return nil, api.ErrNone
	}
	return t.ids(best), api.OK
}

// Count returns how many stacks have a wanted length.
func Count(box []api.Block, w api.Want) (int, api.Errno) {
	t, e := open(box, w)
	if e != api.OK {
		return 0, e
	}
	count := 0
	for _, a := range t.first.sets {
		count += len(t.partners(a))
	}
	return count, api.OK
}

// Nearest returns the stack whose length is next to a wanted one, and how much longer it is.
func Nearest(box []api.Block, w api.Want) ([]int, int, api.Errno) {
	tol, e := Widen(box, w)
	if e != api.OK {
		return nil, 0, e
	}
	w.Tol = tol
	ids, _ := Make(box, w)
	length, _ := Length(box, w, ids)
	return ids, length - w.Len, api.OK
}

// Widen returns the least tolerance with which there is a good stack.
func Widen(box []api.Block, w api.Want) (int, api.Errno) {
	t, e := open(box, w)
	if e != api.OK {
		return 0, e
	}
	if len(box) == 0 {
		return 0, api.ErrNone
	}
	// A single block never differs by more than this.
	least := api.MaxLen
	for _, a := range t.first.sets {
		others, missing := t.others(a), t.missing(a)
		lighter := t.lighter(others, missing)
		if lighter > 0 {
			least = min(least, missing-t.rest.weights[others[lighter-1]])
		}
		if lighter < len(others) {
			least = min(least, t.rest.weights[others[lighter]]-missing)
		}
	}
	return least, api.OK
}

// Needed returns the blocks that all good stacks have.
func Needed(box []api.Block, w api.Want) ([]int, api.Errno) {
	t, e := open(box, w)
	if e != api.OK {
		return nil, e
	}
	inAll, inSome := t.used()
	if inSome == 0 {
		return nil, api.ErrNone
	}
	return t.ids(inAll), api.OK
}

// Spare returns the blocks that no good stack has.
func Spare(box []api.Block, w api.Want) ([]int, api.Errno) {
	t, e := open(box, w)
	if e != api.OK {
		return nil, e
	}
	_, inSome := t.used()
	if inSome == 0 {
		return nil, api.ErrNone
	}
	return t.ids(^inSome), api.OK
}

// used returns the blocks that stand in all good stacks, and those that stand in some; there are none of these only if there is no good stack.
func (t task) used() (inAll, inSome set) {
	inAll = ^set(0)
	for s := range t.good() {
		inAll &= s
		inSome |= s
	}
	return inAll, inSome
}

// Series returns how many lengths of a series can be made, one after the other.
func Series(box []api.Block, w api.Want, step, count int) (int, api.Errno) {
	t, e := open(box, w)
	if e != api.OK {
		return 0, e
	}
	if step < 1 || step > api.MaxLen || count < 1 || count > api.MaxSteps {
		return 0, api.ErrArg
	}
	if w.Len+(count-1)*step > api.MaxLen {
		return 0, api.ErrRange
	}
	made := 0
	for made < count && t.possible() {
		made++
		t.want.Len += step
	}
	return made, api.OK
}

// Lengths returns all lengths of stacks with a number of blocks.
func Lengths(box []api.Block, film, blocks int) ([]int, api.Errno) {
	if e := check(box); e != api.OK {
		return nil, e
	}
	if !validFilm(film) || blocks < 1 || blocks > api.MaxBox {
		return nil, api.ErrArg
	}
	one, other := halve(box)
	others := weigh(other, film)
	found := map[int]bool{}
	for a, weight := range weigh(one, film) {
		for b, more := range others {
			if join(a, b).count() != blocks {
				continue
			}
			found[weight+more-film] = true
			if len(found) > mostLengths {
				return nil, api.ErrLimit
			}
		}
	}
	return slices.Sorted(maps.Keys(found)), api.OK
}
