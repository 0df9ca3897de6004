package exact_test

import (
	"testing"

	"wringing/api"
	"wringing/exact"
)

type operation = func(a, b api.Rat) (api.Rat, api.Errno)

// then carries out an operation on a result, unless there is none.
func then(op operation, a api.Rat, e api.Errno, b api.Rat, f api.Errno) (api.Rat, api.Errno) {
	if e != api.OK {
		return api.Rat{}, e
	}
	if f != api.OK {
		return api.Rat{}, f
	}
	return op(a, b)
}

// agree reports whether two results are equal, as far as both came without an error.
func agree(a api.Rat, e api.Errno, b api.Rat, f api.Errno) bool {
	return e != api.OK || f != api.OK || a == b
}

func lawRats() []api.Rat {
	return append(smallRats(3), rat(46341, 7), rat(-65536, 3), rat(maxNum, 2), rat(-maxNum, 1), rat(1, maxNum), rat(maxNum-1, maxNum))
}

func TestFieldOfTwo(t *testing.T) {
	l := append(lawRats(), randomRats(60)...)
	for _, a := range l {
		for _, b := range l {
			for i, op := range []operation{exact.Add, exact.Mul} {
				x, e := op(a, b)
				y, f := op(b, a)
				if x != y || e != f {
					t.Fatal("P1.13: order:", i, a, b, x, e, y, f)
				}
			}
			sum, e := exact.Add(a, b)
			if back, f := then(exact.Sub, sum, e, b, api.OK); !agree(back, f, a, api.OK) {
				t.Fatal("P1.13: Sub of Add:", a, b, back)
			}
			product, e := exact.Mul(a, b)
			if back, f := then(exact.Div, product, e, b, api.OK); b.Num != 0 && !agree(back, f, a, api.OK) {
				t.Fatal("P1.13: Div of Mul:", a, b, back)
			}
		}
	}
}

func TestFieldOfThree(t *testing.T) {
	l := lawRats()
	for _, a := range l {
		for _, b := range l {
			for _, c := range l {
				for i, op := range []operation{exact.Add, exact.Mul} {
					ab, e := op(a, b)
					left, e := then(op, ab, e, c, api.OK)
					bc, f := op(b, c)
					right, f := then(op, a, api.OK, bc, f)
					if !agree(left, e, right, f) {
						t.Fatal("P1.13: grouping:", i, a, b, c, left, right)
					}
				}
				sum, e := exact.Add(b, c)
				whole, e := then(exact.Mul, a, api.OK, sum, e)
				ab, f := exact.Mul(a, b)
				ac, g := exact.Mul(a, c)
				parts, f := then(exact.Add, ab, f, ac, g)
				if !agree(whole, e, parts, f) {
					t.Fatal("P1.13: Mul over Add:", a, b, c, whole, parts)
				}
			}
		}
	}
}

func cmp(t *testing.T, a, b api.Rat) int {
	n, e := exact.Cmp(a, b)
	if e != api.OK || n < -1 || n > 1 {
		t.Error("P1.14: Cmp:", a, b, n, e)
	}
	return n
}

func TestOrder(t *testing.T) {
	l := lawRats()
	for _, a := range l {
		for _, b := range l {
			n := cmp(t, a, b)
			if n != -cmp(t, b, a) || (n == 0) != (a == b) {
				t.Fatal("P1.14: Cmp:", a, b, n)
			}
			for _, c := range l {
				if n <= 0 && cmp(t, b, c) <= 0 && cmp(t, a, c) > 0 {
					t.Fatal("P1.14: Cmp is no linear order:", a, b, c)
				}
				x, e := exact.Add(a, c)
				y, f := exact.Add(b, c)
				if e == api.OK && f == api.OK && cmp(t, x, y) != n {
					t.Fatal("P1.14: Add:", a, b, c)
				}
				x, e = exact.Mul(a, c)
				y, f = exact.Mul(b, c)
				if c.Num > 0 && e == api.OK && f == api.OK && cmp(t, x, y) != n {
					t.Fatal("P1.14: Mul:", a, b, c)
				}
			}
		}
	}
}

func TestMediantLiesBetween(t *testing.T) {
	l := append(lawRats(), randomRats(60)...)
	for _, a := range l {
		for _, b := range l {
			m, e := exact.Mediant(a, b)
			if e == api.OK && (cmp(t, a, m) != cmp(t, a, b) || cmp(t, m, b) != cmp(t, a, b)) {
				t.Fatal("P1.14: Mediant:", a, b, m)
			}
		}
	}
}

// has reports whether an interval with smallish ends has a number, without the package.
func has(x api.Range, a api.Rat) bool {
	return toBig(x.Lo).Cmp(toBig(a)) <= 0 && toBig(a).Cmp(toBig(x.Hi)) <= 0
}

func TestNumbersOfIntervals(t *testing.T) {
	l := smallRats(3)
	for _, x := range ranges(l) {
		for _, y := range ranges(l) {
			sum, e := exact.Sum(x, y)
			hull, f := exact.Hull(x, y)
			if e != api.OK || f != api.OK {
				t.Fatal("P1.18:", x, y, e, f)
			}
			meet, none := exact.Meet(x, y)
			for _, a := range l {
				if both := has(x, a) && has(y, a); both != (none == api.OK && has(meet, a)) {
					t.Fatal("P1.18: Meet:", x, y, meet, none, a)
				}
				if (has(x, a) || has(y, a)) && !has(hull, a) {
					t.Fatal("P1.18: Hull:", x, y, hull, a)
				}
			}
			for _, a := range []api.Rat{x.Lo, x.Hi} {
				for _, b := range []api.Rat{y.Lo, y.Hi} {
					if r, e := exact.Add(a, b); e != api.OK || !has(sum, r) {
						t.Fatal("P1.18: Sum:", x, y, sum, a, b)
					}
				}
			}
			lo, e := exact.Add(x.Lo, y.Lo)
			hi, f := exact.Add(x.Hi, y.Hi)
			if e != api.OK || f != api.OK || sum != between(lo, hi) {
				t.Fatal("P1.18: the ends of Sum:", x, y, sum)
			}
		}
	}
}

func TestProductsAndIntegersOfIntervals(t *testing.T) {
	l := smallRats(4)
	for _, x := range ranges(l) {
		for _, a := range l {
			scaled, e := exact.Scale(x, a)
			if e != api.OK {
				t.Fatal("P1.18: Scale:", x, a, e)
			}
			for _, b := range l {
				if r, e := exact.Mul(b, a); has(x, b) && (e != api.OK || !has(scaled, r)) {
					t.Fatal("P1.18: Scale:", x, a, scaled, b)
				}
			}
			one, _ := exact.Mul(x.Lo, a)
			other, _ := exact.Mul(x.Hi, a)
			if scaled != between(one, other) && scaled != between(other, one) {
				t.Fatal("P1.18: the ends of Scale:", x, a, scaled)
			}
		}
		whole, none := exact.Whole(x)
		for n := -5; n <= 5; n++ {
			if has(x, rat(n, 1)) != (none == api.OK && whole.Lo <= n && n <= whole.Hi) {
				t.Fatal("P1.18: Whole:", x, whole, none, n)
			}
		}
	}
}

func TestPartLaws(t *testing.T) {
	for _, l := range [][]api.Rat{edgeRats(), smallRats(6), randomRats(200)} {
		for _, a := range l {
			for _, n := range []int{0, 1, -1, 2, 3, -4, 5, 6, 1000, maxNum, -maxNum} {
				s, e := exact.Part(a, n)
				if e != api.OK {
					t.Fatal("P1.18: Part:", a, n, e)
				}
				if integer := n*a.Num%a.Den == 0; integer && s.Hi != s.Lo || !integer && s.Hi != s.Lo+1 {
					t.Fatal("P1.18: Part:", a, n, s)
				}
				product, e := exact.Mul(a, rat(n, 1))
				if e != api.OK {
					continue
				}
				lo, e := exact.Floor(product)
				hi, f := exact.Ceil(product)
				if e != api.OK || f != api.OK || s != (api.Span{Lo: lo, Hi: hi}) {
					t.Fatal("P1.18: Part:", a, n, s, lo, hi)
				}
			}
		}
	}
}
