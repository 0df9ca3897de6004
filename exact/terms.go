package exact

import (
	"iter"
	"slices"

	"wringing/api"
)

// Expand returns the terms of the continued fraction of a number.
func Expand(a api.Rat) ([]int, api.Errno) {
	if !Valid(a) {
		return nil, api.ErrArg
	}
	return slices.Collect(terms(a)), api.OK
}

// Fold returns the number of a continued fraction.
func Fold(l []int) (api.Rat, api.Errno) {
	if len(l) > api.MaxTerms {
		return api.Rat{}, api.ErrLimit
	}
	if len(l) == 0 {
		return api.Rat{}, api.ErrArg
	}
	first, further := l[0], l[1:]
	for _, term := range further {
		if term < 1 {
			return api.Rat{}, api.ErrArg
		}
	}
	rest, e := foldBack(further)
	if e != api.OK {
		return api.Rat{}, e
	}
	// The rest adds from 0 to 1, so a first term beyond these bounds has no valid result; within them nothing overflows.
	if first < -api.MaxNum-1 || first > api.MaxNum {
		return api.Rat{}, api.ErrRange
	}
	return Make(first*rest.Num+rest.Den, rest.Num)
}

// foldBack returns the continued fraction of the terms behind the first one, and 1/0 if there are none, which adds nothing to the first one. Its numerator never becomes less on the way to the front, and is the denominator of the whole in the end.
func foldBack(further []int) (api.Rat, api.Errno) {
	rest := api.Rat{Num: 1, Den: 0}
	for _, term := range slices.Backward(further) {
		if term > api.MaxNum {
			return api.Rat{}, api.ErrRange
		}
		rest = api.Rat{Num: term*rest.Num + rest.Den, Den: rest.Num}
		if rest.Num > api.MaxNum {
			return api.Rat{}, api.ErrRange
		}
	}
	return rest, api.OK
}

// Simplest returns the number of an interval with the least denominator.
func Simplest(x api.Range) (api.Rat, api.Errno) {
	if !ValidRange(x) {
		return api.Rat{}, api.ErrArg
	}
	if x.Lo.Num > 0 {
		return simplestAbove(x.Lo, x.Hi), api.OK
	}
	if x.Hi.Num < 0 {
		return opposite(simplestAbove(opposite(x.Hi), opposite(x.Lo))), api.OK
	}
	return api.Rat{Num: 0, Den: 1}, api.OK
}

// simplestAbove returns the simplest number from lo to hi, which are positive. If no integer is among them, all have the same whole part, and the simplest number has the simplest reciprocal of what is left.
func simplestAbove(lo, hi api.Rat) api.Rat {
	least := ceilOf(lo.Num, lo.Den)
	if least <= floorOf(hi.Num, hi.Den) {
		return api.Rat{Num: least, Den: 1}
	}
	whole := least - 1
	rest := simplestAbove(
		api.Rat{Num: hi.Den, Den: hi.Num - whole*hi.Den},
		api.Rat{Num: lo.Den, Den: lo.Num - whole*lo.Den},
	)
	return api.Rat{Num: whole*rest.Num + rest.Den, Den: rest.Num}
}

// Best returns the number with a small denominator that is closest to a number.
func Best(a api.Rat, most int) (api.Rat, api.Errno) {
	if !Valid(a) || most < 1 || most > api.MaxBest {
		return api.Rat{}, api.ErrArg
	}
	// The last two convergents, beginning with the two that come before the first one.
	recent := [2]api.Rat{{Num: 0, Den: 1}, {Num: 1, Den: 0}}
	for term := range terms(a) {
		next := convergent(recent, term)
		if next.Den > most {
			// The closest numbers on both sides of a are the last convergent, and the last one on the way to the next one.
			step := (most - recent[0].Den) / recent[1].Den
			return closer(a, recent[1], convergent(recent, step)), api.OK
		}
		recent = [2]api.Rat{recent[1], next}
	}
	return recent[1], api.OK
}

func convergent(recent [2]api.Rat, term int) api.Rat {
	return api.Rat{Num: recent[0].Num + term*recent[1].Num, Den: recent[0].Den + term*recent[1].Den}
}

// closer returns the one of two numbers that is closer to a; the lesser one if both are equally close.
func closer(a, p, q api.Rat) api.Rat {
	low, high := ordered(p, q, before)
	near, _ := ordered(low, high, func(p, q api.Rat) bool { return offset(a, p)*q.Den < offset(a, q)*p.Den })
	return near
}

// offset is the distance of two numbers, times both denominators.
func offset(a, p api.Rat) int {
	n := a.Num*p.Den - p.Num*a.Den
	return max(n, -n)
}

// terms visits the terms of the continued fraction of a number.
func terms(a api.Rat) iter.Seq[int] {
	return func(yield func(int) bool) {
		for num, den := a.Num, a.Den; den != 0; {
			term := floorOf(num, den)
			if !yield(term) {
				return
			}
			num, den = den, num-term*den
		}
	}
}
