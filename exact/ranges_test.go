package exact_test

import (
	"math/big"
	"testing"

	"wringing/api"
	"wringing/exact"
)

// orderedBig returns the range of two numbers in either order, or the error that a function with these ends has to return.
func orderedBig(a, b *big.Rat) (api.Range, api.Errno) {
	if a.Cmp(b) > 0 {
		a, b = b, a
	}
	lo, e := fromBig(a)
	hi, f := fromBig(b)
	if e != api.OK || f != api.OK {
		return api.Range{}, api.ErrRange
	}
	return between(lo, hi), api.OK
}

func least(a, b *big.Rat) *big.Rat {
	if a.Cmp(b) < 0 {
		return a
	}
	return b
}

func greatest(a, b *big.Rat) *big.Rat {
	if a.Cmp(b) < 0 {
		return b
	}
	return a
}

// edgeRanges has ends from small ones to the greatest ones.
func edgeRanges() []api.Range {
	return ranges([]api.Rat{
		rat(0, 1), rat(1, 1), rat(-1, 1), rat(1, 2), rat(-3, 2), rat(2, 3), rat(7, 2), rat(-7, 3),
		rat(46341, 2), rat(maxNum, 1), rat(-maxNum, 1), rat(1, maxNum), rat(-1, maxNum),
		rat(maxNum, maxNum-1), rat(maxNum-1, maxNum-2), rat(-maxNum+2, 2),
	})
}

func TestValidRange(t *testing.T) {
	for _, x := range append(edgeRanges(), ranges(smallRats(4))...) {
		if !exact.ValidRange(x) {
			t.Fatal("P1.8: ValidRange: refused", x)
		}
		if x.Lo != x.Hi && exact.ValidRange(between(x.Hi, x.Lo)) {
			t.Fatal("P1.8: ValidRange: accepted the reverse of", x)
		}
	}
	for _, bad := range badRanges {
		if exact.ValidRange(bad) {
			t.Fatal("P1.8: ValidRange: accepted", bad)
		}
	}
	for _, bad := range badRats {
		for _, x := range []api.Range{between(bad, rat(maxNum, 1)), between(rat(-maxNum, 1), bad), between(bad, bad)} {
			if exact.ValidRange(x) {
				t.Fatal("P1.8: ValidRange: accepted", x)
			}
		}
	}
}

func TestHas(t *testing.T) {
	for _, x := range edgeRanges() {
		for _, a := range edgeRats() {
			want := toBig(x.Lo).Cmp(toBig(a)) <= 0 && toBig(a).Cmp(toBig(x.Hi)) <= 0
			if exact.Has(x, a) != want {
				t.Fatal("P1.8: Has:", x, a)
			}
		}
		for _, bad := range badRats {
			if exact.Has(x, bad) {
				t.Fatal("P1.8: Has:", x, bad)
			}
		}
	}
	for _, bad := range badRanges {
		for _, a := range []api.Rat{bad.Lo, bad.Hi, rat(0, 1), rat(1, 1), rat(1, 2), rat(-2, 5)} {
			if exact.Has(bad, a) {
				t.Fatal("P1.8: Has:", bad, a)
			}
		}
	}
}

func TestMeetHull(t *testing.T) {
	l := append(edgeRanges(), ranges(smallRats(3))...)
	for _, x := range l {
		for _, y := range l {
			hull, wantE := orderedBig(least(toBig(x.Lo), toBig(y.Lo)), greatest(toBig(x.Hi), toBig(y.Hi)))
			if h, e := exact.Hull(x, y); h != hull || e != wantE {
				t.Fatal("P1.9: Hull:", x, y, h, e)
			}
			want, wantE := api.Range{}, api.ErrNone
			if lo, hi := greatest(toBig(x.Lo), toBig(y.Lo)), least(toBig(x.Hi), toBig(y.Hi)); lo.Cmp(hi) <= 0 {
				want, wantE = orderedBig(lo, hi)
			}
			if m, e := exact.Meet(x, y); m != want || e != wantE {
				t.Fatal("P1.9: Meet:", x, y, m, e)
			}
		}
	}
}

func TestMeetExamples(t *testing.T) {
	x := between(rat(-2, 1), rat(3, 1))
	if m, e := exact.Meet(x, between(rat(3, 1), rat(4, 1))); m != between(rat(3, 1), rat(3, 1)) || e != api.OK {
		t.Error("P1.9: Meet of neighbours:", m, e)
	}
	if m, e := exact.Meet(x, between(rat(10, 3), rat(4, 1))); m != (api.Range{}) || e != api.ErrNone {
		t.Error("P1.9: Meet of strangers:", m, e)
	}
	if h, e := exact.Hull(x, between(rat(10, 3), rat(4, 1))); h != between(rat(-2, 1), rat(4, 1)) || e != api.OK {
		t.Error("P1.9: Hull of strangers:", h, e)
	}
}

func TestSum(t *testing.T) {
	l := append(edgeRanges(), ranges(smallRats(2))...)
	for _, x := range l {
		for _, y := range l {
			want, wantE := orderedBig(new(big.Rat).Add(toBig(x.Lo), toBig(y.Lo)), new(big.Rat).Add(toBig(x.Hi), toBig(y.Hi)))
			if s, e := exact.Sum(x, y); s != want || e != wantE {
				t.Fatal("P1.10: Sum:", x, y, s, e)
			}
		}
	}
	one := between(rat(1, 1), rat(1, 1))
	if s, e := exact.Sum(between(rat(0, 1), rat(maxNum, 1)), one); s != (api.Range{}) || e != api.ErrRange {
		t.Error("P1.10: Sum with one end out of range:", s, e)
	}
}

func TestScale(t *testing.T) {
	factors := append(edgeRats(), smallRats(3)...)
	for _, x := range edgeRanges() {
		for _, a := range factors {
			want, wantE := orderedBig(new(big.Rat).Mul(toBig(x.Lo), toBig(a)), new(big.Rat).Mul(toBig(x.Hi), toBig(a)))
			if s, e := exact.Scale(x, a); s != want || e != wantE {
				t.Fatal("P1.10: Scale:", x, a, s, e)
			}
		}
	}
	x := between(rat(-2, 1), rat(3, 1))
	if s, e := exact.Scale(x, rat(-1, 2)); s != between(rat(-3, 2), rat(1, 1)) || e != api.OK {
		t.Error("P1.10: Scale:", s, e)
	}
	if s, e := exact.Scale(x, rat(0, 1)); s != between(rat(0, 1), rat(0, 1)) || e != api.OK {
		t.Error("P1.10: Scale:", s, e)
	}
	if s, e := exact.Scale(between(rat(0, 1), rat(maxNum, 1)), rat(-2, 1)); s != (api.Range{}) || e != api.ErrRange {
		t.Error("P1.10: Scale with one end out of range:", s, e)
	}
}

func TestWhole(t *testing.T) {
	for _, x := range append(edgeRanges(), ranges(smallRats(6))...) {
		want, wantE := api.Span{Lo: ceilBig(toBig(x.Lo)), Hi: floorBig(toBig(x.Hi))}, api.OK
		if want.Lo > want.Hi {
			want, wantE = api.Span{}, api.ErrNone
		}
		if s, e := exact.Whole(x); s != want || e != wantE {
			t.Fatal("P1.11:", x, s, e)
		}
	}
	for _, c := range []struct {
		x    api.Range
		want api.Span
		e    api.Errno
	}{
		{between(rat(1, 3), rat(2, 3)), api.Span{}, api.ErrNone},
		{between(rat(-2, 3), rat(-1, 3)), api.Span{}, api.ErrNone},
		{between(rat(1, 3), rat(1, 1)), api.Span{Lo: 1, Hi: 1}, api.OK},
		{between(rat(-7, 2), rat(5, 3)), api.Span{Lo: -3, Hi: 1}, api.OK},
	} {
		if s, e := exact.Whole(c.x); s != c.want || e != c.e {
			t.Fatal("P1.11:", c.x, s, e)
		}
	}
}

func TestRangesInvalid(t *testing.T) {
	good := append(ranges(smallRats(2)), between(rat(maxNum, 1), rat(maxNum, 1)))
	for _, bad := range badRanges {
		for _, other := range append(good, bad) {
			for _, pair := range [2][2]api.Range{{bad, other}, {other, bad}} {
				for i, call := range []func(x, y api.Range) (api.Range, api.Errno){exact.Meet, exact.Hull, exact.Sum} {
					if s, e := call(pair[0], pair[1]); s != (api.Range{}) || e != api.ErrArg {
						t.Fatal("P1.9, P1.10:", i, pair, s, e)
					}
				}
			}
		}
		for _, a := range []api.Rat{rat(0, 1), rat(1, 1), rat(maxNum, 1), rat(2, 2)} {
			if s, e := exact.Scale(bad, a); s != (api.Range{}) || e != api.ErrArg {
				t.Fatal("P1.10: Scale:", bad, a, s, e)
			}
		}
		if s, e := exact.Whole(bad); s != (api.Span{}) || e != api.ErrArg {
			t.Fatal("P1.11:", bad, s, e)
		}
	}
	for _, x := range good {
		for _, bad := range badRats {
			if s, e := exact.Scale(x, bad); s != (api.Range{}) || e != api.ErrArg {
				t.Fatal("P1.10: Scale:", x, bad, s, e)
			}
		}
	}
}
