package exact_test

import (
	"math/big"
	"testing"

	"wringing/api"
	"wringing/exact"
)

type binary struct {
	name string
	call func(a, b api.Rat) (api.Rat, api.Errno)
	want func(a, b api.Rat) (api.Rat, api.Errno)
}

// oracle turns an operation of math/big into the results that are wanted.
func oracle(op func(z, x, y *big.Rat) *big.Rat) func(a, b api.Rat) (api.Rat, api.Errno) {
	return func(a, b api.Rat) (api.Rat, api.Errno) { return fromBig(op(new(big.Rat), toBig(a), toBig(b))) }
}

func binaries() []binary {
	quo := oracle((*big.Rat).Quo)
	return []binary{
		{"P1.2: Add", exact.Add, oracle((*big.Rat).Add)},
		{"P1.2: Sub", exact.Sub, oracle((*big.Rat).Sub)},
		{"P1.2: Mul", exact.Mul, oracle((*big.Rat).Mul)},
		{"P1.2: Div", exact.Div, func(a, b api.Rat) (api.Rat, api.Errno) {
			if b.Num == 0 {
				return api.Rat{}, api.ErrNone
			}
			return quo(a, b)
		}},
		{"P1.3: Mediant", exact.Mediant, func(a, b api.Rat) (api.Rat, api.Errno) {
			return fromBig(big.NewRat(int64(a.Num+b.Num), int64(a.Den+b.Den)))
		}},
	}
}

func TestValid(t *testing.T) {
	for _, a := range append(edgeRats(), smallRats(5)...) {
		if !exact.Valid(a) {
			t.Fatal("P1.1: Valid: refused", a)
		}
	}
	for _, a := range badRats {
		if exact.Valid(a) {
			t.Fatal("P1.1: Valid: accepted", a)
		}
	}
	for den := -4; den <= 12; den++ {
		for num := -12; num <= 12; num++ {
			if want := den > 0 && lowest(num, den); exact.Valid(rat(num, den)) != want {
				t.Fatal("P1.1: Valid:", num, den)
			}
		}
	}
}

func TestMakeExamples(t *testing.T) {
	for _, c := range []struct {
		num, den int
		want     api.Rat
		e        api.Errno
	}{
		{6, -4, rat(-3, 2), api.OK},
		{0, -5, rat(0, 1), api.OK},
		{1, 1 << 31, api.Rat{}, api.ErrRange},
		{leastInt, leastInt, rat(1, 1), api.OK},
		{5, 0, api.Rat{}, api.ErrArg},
		{0, 0, api.Rat{}, api.ErrArg},
		{leastInt, 0, api.Rat{}, api.ErrArg},
		{leastInt, -1, api.Rat{}, api.ErrRange},
		{-1, leastInt, api.Rat{}, api.ErrRange},
		{0, leastInt, rat(0, 1), api.OK},
	} {
		if r, e := exact.Make(c.num, c.den); r != c.want || e != c.e {
			t.Fatal("P1.1: Make:", c.num, c.den, r, e)
		}
	}
}

func TestMakeAnyIntegers(t *testing.T) {
	parts := []int{0, 1, 2, 3, 6, 46341, maxNum - 1, maxNum, maxNum + 1, 2 * maxNum, 1 << 32, 1 << 61, 3 << 61, 1 << 62, maxNum * maxNum, mostInt - 1, mostInt, leastInt}
	for _, p := range parts {
		for _, q := range parts {
			for _, s := range [4][2]int{{1, 1}, {1, -1}, {-1, 1}, {-1, -1}} {
				num, den := s[0]*p, s[1]*q
				want, wantE := api.Rat{}, api.ErrArg
				if den != 0 {
					want, wantE = fromBig(big.NewRat(int64(num), int64(den)))
				}
				if r, e := exact.Make(num, den); r != want || e != wantE {
					t.Fatal("P1.1: Make:", num, den, r, e)
				}
			}
		}
	}
}

func TestOperations(t *testing.T) {
	lists := [][]api.Rat{edgeRats(), smallRats(5), randomRats(150)}
	for _, op := range binaries() {
		for _, l := range lists {
			for _, a := range l {
				for _, b := range l {
					want, wantE := op.want(a, b)
					if r, e := op.call(a, b); r != want || e != wantE {
						t.Fatal(op.name, a, b, r, e, "instead of", want, wantE)
					}
				}
			}
		}
	}
}

func TestOperationsExamples(t *testing.T) {
	a, b := rat(-3, 2), rat(1, 3)
	for i, c := range []struct {
		call func(a, b api.Rat) (api.Rat, api.Errno)
		a, b api.Rat
		want api.Rat
		e    api.Errno
	}{
		{exact.Sub, rat(1, 10), rat(1, 4), rat(-3, 20), api.OK},
		{exact.Mul, rat(-3, 20), rat(100, 1), rat(-15, 1), api.OK},
		{exact.Mul, rat(-3, 20), rat(200, 1), rat(-30, 1), api.OK},
		{exact.Add, a, b, rat(-7, 6), api.OK},
		{exact.Div, a, b, rat(-9, 2), api.OK},
		{exact.Div, b, a, rat(-2, 9), api.OK},
		{exact.Div, a, rat(0, 1), api.Rat{}, api.ErrNone},
		{exact.Div, rat(0, 1), rat(0, 1), api.Rat{}, api.ErrNone},
		{exact.Div, rat(0, 1), a, rat(0, 1), api.OK},
		{exact.Mediant, a, b, rat(-2, 5), api.OK},
		{exact.Mediant, rat(1, 3), rat(1, 1), rat(1, 2), api.OK},
		{exact.Mediant, rat(maxNum, 1), rat(2, 1), api.Rat{}, api.ErrRange},
		{exact.Mediant, rat(maxNum, 1), rat(1, 1), rat(1<<30, 1), api.OK},
		{exact.Mediant, rat(1, maxNum), rat(1, 1), rat(1, 1<<30), api.OK},
		{exact.Mediant, rat(1, maxNum), rat(2, 1), api.Rat{}, api.ErrRange},
		{exact.Add, rat(maxNum, 1), rat(1, 1), api.Rat{}, api.ErrRange},
		{exact.Add, rat(maxNum-1, 1), rat(1, 1), rat(maxNum, 1), api.OK},
		{exact.Sub, rat(-maxNum, 1), rat(1, 1), api.Rat{}, api.ErrRange},
		{exact.Sub, rat(-maxNum+1, 1), rat(1, 1), rat(-maxNum, 1), api.OK},
		{exact.Mul, rat(1, maxNum), rat(1, 2), api.Rat{}, api.ErrRange},
		{exact.Mul, rat(maxNum, 1), rat(1, maxNum), rat(1, 1), api.OK},
	} {
		if r, e := c.call(c.a, c.b); r != c.want || e != c.e {
			t.Fatal("P1.2, P1.3:", i, r, e)
		}
	}
}

func TestOperationsInvalid(t *testing.T) {
	good := []api.Rat{rat(0, 1), rat(1, 1), rat(-3, 2), rat(maxNum, 1)}
	for _, bad := range badRats {
		for _, op := range binaries() {
			for _, other := range append(good, bad) {
				for _, pair := range [2][2]api.Rat{{bad, other}, {other, bad}} {
					if r, e := op.call(pair[0], pair[1]); r != (api.Rat{}) || e != api.ErrArg {
						t.Fatal(op.name, pair, r, e)
					}
				}
			}
		}
		for _, other := range append(good, bad) {
			for _, pair := range [2][2]api.Rat{{bad, other}, {other, bad}} {
				if n, e := exact.Cmp(pair[0], pair[1]); n != 0 || e != api.ErrArg {
					t.Fatal("P1.2: Cmp:", pair, n, e)
				}
			}
		}
		if r, e := exact.Neg(bad); r != (api.Rat{}) || e != api.ErrArg {
			t.Fatal("P1.2: Neg:", bad, r, e)
		}
	}
}

func TestCmpNeg(t *testing.T) {
	for _, l := range [][]api.Rat{edgeRats(), smallRats(5), randomRats(100)} {
		for _, a := range l {
			if r, e := exact.Neg(a); r != rat(-a.Num, a.Den) || e != api.OK {
				t.Fatal("P1.2: Neg:", a, r, e)
			}
			for _, b := range l {
				if n, e := exact.Cmp(a, b); n != toBig(a).Cmp(toBig(b)) || e != api.OK {
					t.Fatal("P1.2: Cmp:", a, b, n, e)
				}
			}
		}
	}
}

func TestFloorCeil(t *testing.T) {
	for _, l := range [][]api.Rat{edgeRats(), smallRats(9), randomRats(200)} {
		for _, a := range l {
			if n, e := exact.Floor(a); n != floorBig(toBig(a)) || e != api.OK {
				t.Fatal("P1.4: Floor:", a, n, e)
			}
			if n, e := exact.Ceil(a); n != ceilBig(toBig(a)) || e != api.OK {
				t.Fatal("P1.4: Ceil:", a, n, e)
			}
		}
	}
	lo, e := exact.Floor(rat(-3, 2))
	hi, f := exact.Ceil(rat(-3, 2))
	if lo != -2 || hi != -1 || e != api.OK || f != api.OK {
		t.Error("P1.4: -3/2:", lo, hi, e, f)
	}
	for _, bad := range badRats {
		lo, e := exact.Floor(bad)
		hi, f := exact.Ceil(bad)
		if lo != 0 || hi != 0 || e != api.ErrArg || f != api.ErrArg {
			t.Fatal("P1.4:", bad, lo, hi, e, f)
		}
	}
}

func TestPart(t *testing.T) {
	factors := []int{0, 1, -1, 2, -2, 3, 5, -12, 1000, -46341, 1 << 30, maxNum - 1, -maxNum + 1, maxNum, -maxNum}
	for _, l := range [][]api.Rat{edgeRats(), smallRats(6), randomRats(100)} {
		for _, a := range l {
			for _, n := range factors {
				x := new(big.Rat).Mul(toBig(a), new(big.Rat).SetInt64(int64(n)))
				want := api.Span{Lo: floorBig(x), Hi: ceilBig(x)}
				if s, e := exact.Part(a, n); s != want || e != api.OK {
					t.Fatal("P1.4: Part:", a, n, s, e)
				}
			}
		}
	}
	for _, n := range []int{maxNum + 1, -maxNum - 1, mostInt, leastInt} {
		if s, e := exact.Part(rat(1, 3), n); s != (api.Span{}) || e != api.ErrRange {
			t.Fatal("P1.4: Part:", n, s, e)
		}
		for _, bad := range badRats {
			if s, e := exact.Part(bad, n); s != (api.Span{}) || e != api.ErrArg {
				t.Fatal("P1.4: Part:", bad, n, s, e)
			}
		}
	}
	for _, bad := range badRats {
		if s, e := exact.Part(bad, 1); s != (api.Span{}) || e != api.ErrArg {
			t.Fatal("P1.4: Part:", bad, s, e)
		}
	}
	for n, want := range map[int]api.Span{5: {Lo: -8, Hi: -7}, 4: {Lo: -6, Hi: -6}} {
		if s, e := exact.Part(rat(-3, 2), n); s != want || e != api.OK {
			t.Fatal("P1.4: Part of -3/2:", n, s, e)
		}
	}
}
