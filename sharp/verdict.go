package sharp

import "wringing/api"

// Judge returns the verdict about a length and its limits.
func Judge(b api.Book, n api.Node, limits api.Span) (int, api.Errno) {
	s, e := openLimits(b, n, limits)
	if e != api.OK {
		return 0, e
	}
	return verdict(s.interval(n), limits), api.OK
}

// Witness returns lengths that fit a book, with one that is within limits, or is not.
func Witness(b api.Book, n api.Node, limits api.Span, in bool) ([]int, api.Errno) {
	s, e := openLimits(b, n, limits)
	if e != api.OK {
		return nil, e
	}
	interval := s.interval(n)
	common := commonOf(interval, limits)
	switch {
	case in && common != nothing:
		return s.history(n, common.Lo), api.OK
	case !in && interval.Lo < limits.Lo:
		return s.history(n, interval.Lo), api.OK
	case !in && interval.Hi > limits.Hi:
		return s.history(n, interval.Hi), api.OK
	}
	return nil, api.ErrNone
}

// openLimits opens a book of which a node and its limits are asked.
func openLimits(b api.Book, n api.Node, limits api.Span) (sight, api.Errno) {
	s, e := open(b, n)
	if e != api.OK {
		return sight{}, e
	}
	if limits.Lo > limits.Hi {
		return sight{}, api.ErrArg
	}
	return s, api.OK
}

// verdict tells a length of some interval from limits. The length can be each integer of the interval.
func verdict(interval, limits api.Span) int {
	switch common := commonOf(interval, limits); {
	case common == interval:
		return api.ShIn
	case common == nothing:
		return api.ShOut
	}
	return api.ShOpen
}

// nothing is the span without integers.
var nothing = api.Span{Lo: 1, Hi: 0}

// commonOf returns what two spans have in common.
func commonOf(s, t api.Span) api.Span {
	common := api.Span{Lo: max(s.Lo, t.Lo), Hi: min(s.Hi, t.Hi)}
	if common.Lo > common.Hi {
		return nothing
	}
	return common
}
