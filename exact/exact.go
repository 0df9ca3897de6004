// Package exact computes with rational numbers and closed intervals of them, without rounding; see shared/doc/01-exact.md.
package exact

import (
	"cmp"

	"wringing/api"
)

// Valid reports whether a rational number is valid.
func Valid(r api.Rat) bool {
	if r.Den < 1 || r.Den > api.MaxNum || r.Num < -api.MaxNum || r.Num > api.MaxNum {
		return false
	}
	return commonDivisor(magnitude(r.Num), magnitude(r.Den)) == 1
}

// Make returns the quotient of two integers.
func Make(num, den int) (api.Rat, api.Errno) {
	if den == 0 {
		return api.Rat{}, api.ErrArg
	}
	n, d := magnitude(num), magnitude(den)
	g := commonDivisor(n, d)
	n, d = n/g, d/g
	if n > api.MaxNum || d > api.MaxNum {
		return api.Rat{}, api.ErrRange
	}
	r := api.Rat{Num: int(n), Den: int(d)}
	if (num < 0) != (den < 0) {
		return opposite(r), api.OK
	}
	return r, api.OK
}

// Cmp returns -1, 0 or 1.
func Cmp(a, b api.Rat) (int, api.Errno) {
	if !allValid(a, b) {
		return 0, api.ErrArg
	}
	if a == b {
		return 0, api.OK
	}
	return cmp.Compare(a.Num*b.Den, b.Num*a.Den), api.OK
}

// Neg returns the opposite number.
func Neg(a api.Rat) (api.Rat, api.Errno) {
	if !Valid(a) {
		return api.Rat{}, api.ErrArg
	}
	return opposite(a), api.OK
}

// Add returns a sum.
func Add(a, b api.Rat) (api.Rat, api.Errno) {
	return combine(a, b, func() (num, den int) { return a.Num*b.Den + b.Num*a.Den, a.Den * b.Den })
}

// Sub returns a difference.
func Sub(a, b api.Rat) (api.Rat, api.Errno) {
	return combine(a, b, func() (num, den int) { return a.Num*b.Den - b.Num*a.Den, a.Den * b.Den })
}

// Mul returns a product.
func Mul(a, b api.Rat) (api.Rat, api.Errno) {
	return combine(a, b, func() (num, den int) { return a.Num * b.Num, a.Den * b.Den })
}

// Div returns a quotient.
func Div(a, b api.Rat) (api.Rat, api.Errno) {
	if allValid(a, b) && b.Num == 0 {
		return api.Rat{}, api.ErrNone
	}
	return combine(a, b, func() (num, den int) { return a.Num * b.Den, a.Den * b.Num })
}

// Mediant returns the mediant of two numbers.
func Mediant(a, b api.Rat) (api.Rat, api.Errno) {
	return combine(a, b, func() (num, den int) { return a.Num + b.Num, a.Den + b.Den })
}

// Floor returns the greatest integer that is not greater.
func Floor(a api.Rat) (int, api.Errno) {
	if !Valid(a) {
		return 0, api.ErrArg
	}
	return floorOf(a.Num, a.Den), api.OK
}

// Ceil returns the least integer that is not less.
func Ceil(a api.Rat) (int, api.Errno) {
	if !Valid(a) {
		return 0, api.ErrArg
	}
	return ceilOf(a.Num, a.Den), api.OK
}

// Part returns the integers next to a multiple of a number.
func Part(a api.Rat, n int) (api.Span, api.Errno) {
	if !Valid(a) {
		return api.Span{}, api.ErrArg
	}
	if n < -api.MaxNum || n > api.MaxNum {
		return api.Span{}, api.ErrRange
	}
	return api.Span{Lo: floorOf(n*a.Num, a.Den), Hi: ceilOf(n*a.Num, a.Den)}, api.OK
}

// combine makes the number that an operation on two numbers yields. The operation runs only if both are valid: then sums of two products of their parts fit into 64 bits.
func combine(a, b api.Rat, operation func() (num, den int)) (api.Rat, api.Errno) {
	if !allValid(a, b) {
		return api.Rat{}, api.ErrArg
	}
	return Make(operation())
}

func allValid(numbers ...api.Rat) bool {
	for _, r := range numbers {
		if !Valid(r) {
			return false
		}
	}
	return true
}

// before reports whether one valid number is less than another one.
func before(a, b api.Rat) bool {
	order, _ := Cmp(a, b)
	return order < 0
}

func opposite(a api.Rat) api.Rat { return api.Rat{Num: -a.Num, Den: a.Den} }

// magnitude is unsigned because the least integer has no opposite among the signed ones.
func magnitude(n int) uint64 {
	if n < 0 {
		return -uint64(n)
	}
	return uint64(n)
}

func commonDivisor(a, b uint64) uint64 {
	for b != 0 {
		a, b = b, a%b
	}
	return a
}

// floorOf rounds num / den down, for a positive den.
func floorOf(num, den int) int {
	if num%den < 0 {
		return num/den - 1
	}
	return num / den
}

// ceilOf rounds num / den up, for a positive den.
func ceilOf(num, den int) int { return -floorOf(-num, den) }

// ordered returns the lesser and the greater one of two things, in the order in which they came if neither is less.
func ordered[T any](a, b T, less func(a, b T) bool) (T, T) {
	if less(b, a) {
		return b, a
	}
	return a, b
}
