package exact

import "wringing/api"

// ValidRange reports whether an interval is valid.
func ValidRange(x api.Range) bool {
	return allValid(x.Lo, x.Hi) && !before(x.Hi, x.Lo)
}

// Has reports whether an interval has a number.
func Has(x api.Range, a api.Rat) bool {
	return ValidRange(x) && Valid(a) && !before(a, x.Lo) && !before(x.Hi, a)
}

// Meet returns what two intervals have in common.
func Meet(x, y api.Range) (api.Range, api.Errno) {
	if !ValidRange(x) || !ValidRange(y) {
		return api.Range{}, api.ErrArg
	}
	_, lo := ordered(x.Lo, y.Lo, before)
	hi, _ := ordered(x.Hi, y.Hi, before)
	if before(hi, lo) {
		return api.Range{}, api.ErrNone
	}
	return api.Range{Lo: lo, Hi: hi}, api.OK
}

// Hull returns the least interval that has two others.
func Hull(x, y api.Range) (api.Range, api.Errno) {
	if !ValidRange(x) || !ValidRange(y) {
		return api.Range{}, api.ErrArg
	}
	lo, _ := ordered(x.Lo, y.Lo, before)
	_, hi := ordered(x.Hi, y.Hi, before)
	return api.Range{Lo: lo, Hi: hi}, api.OK
}

// Sum returns the sums of the numbers of two intervals.
func Sum(x, y api.Range) (api.Range, api.Errno) {
	if !ValidRange(x) || !ValidRange(y) {
		return api.Range{}, api.ErrArg
	}
	return spread([2][2]api.Rat{{x.Lo, y.Lo}, {x.Hi, y.Hi}}, Add)
}

// Scale returns the products of the numbers of an interval and a number.
func Scale(x api.Range, a api.Rat) (api.Range, api.Errno) {
	if !ValidRange(x) || !Valid(a) {
		return api.Range{}, api.ErrArg
	}
	return spread([2][2]api.Rat{{x.Lo, a}, {x.Hi, a}}, Mul)
}

// Whole returns the integers of an interval.
func Whole(x api.Range) (api.Span, api.Errno) {
	if !ValidRange(x) {
		return api.Span{}, api.ErrArg
	}
	s := api.Span{Lo: ceilOf(x.Lo.Num, x.Lo.Den), Hi: floorOf(x.Hi.Num, x.Hi.Den)}
	if s.Lo > s.Hi {
		return api.Span{}, api.ErrNone
	}
	return s, api.OK
}

// spread returns the interval between the results of an operation on two pairs of numbers, whichever is the lesser one.
func spread(pairs [2][2]api.Rat, operation func(a, b api.Rat) (api.Rat, api.Errno)) (api.Range, api.Errno) {
	var ends [2]api.Rat
	for i, pair := range pairs {
		end, e := operation(pair[0], pair[1])
		if e != api.OK {
			return api.Range{}, e
		}
		ends[i] = end
	}
	lo, hi := ordered(ends[0], ends[1], before)
	return api.Range{Lo: lo, Hi: hi}, api.OK
}
