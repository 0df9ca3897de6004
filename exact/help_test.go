package exact_test

import (
	"math/big"
	"math/rand"

	"wringing/api"
)

const (
	maxNum   = api.MaxNum
	leastInt = -1 << 63
	mostInt  = 1<<63 - 1
)

// badRats are numbers that are not valid, each for one reason of its own.
var badRats = []api.Rat{
	{}, {Num: 1}, {Num: 0, Den: 2}, {Num: 2, Den: 4}, {Num: -3, Den: 6}, {Num: 1, Den: -1}, {Num: 3, Den: -2},
	{Num: maxNum + 1, Den: 1}, {Num: -maxNum - 1, Den: 1}, {Num: 1, Den: maxNum + 1},
	{Num: leastInt, Den: 1}, {Num: mostInt, Den: 1}, {Num: 1, Den: leastInt}, {Num: 1, Den: mostInt},
	{Num: maxNum, Den: maxNum}, {Num: leastInt, Den: leastInt},
}

// badRanges are intervals that are not valid.
var badRanges = []api.Range{
	{}, between(rat(1, 1), rat(0, 1)), between(rat(1, 2), rat(1, 3)), between(rat(-1, 3), rat(-1, 2)),
	between(rat(0, 2), rat(1, 1)), between(rat(0, 1), rat(2, 2)), between(rat(0, 1), rat(maxNum+1, 1)),
	between(rat(-maxNum-1, 1), rat(0, 1)), between(rat(0, 1), rat(1, -1)),
	between(rat(maxNum-1, maxNum-2), rat(maxNum, maxNum-1)),
}

func rat(num, den int) api.Rat { return api.Rat{Num: num, Den: den} }

func between(lo, hi api.Rat) api.Range { return api.Range{Lo: lo, Hi: hi} }

func toBig(a api.Rat) *big.Rat { return big.NewRat(int64(a.Num), int64(a.Den)) }

// fromBig is what a function with this exact result has to return.
func fromBig(x *big.Rat) (api.Rat, api.Errno) {
	limit := big.NewInt(maxNum)
	if x.Num().CmpAbs(limit) > 0 || x.Denom().Cmp(limit) > 0 {
		return api.Rat{}, api.ErrRange
	}
	return rat(int(x.Num().Int64()), int(x.Denom().Int64())), api.OK
}

func floorBig(x *big.Rat) int { return int(new(big.Int).Div(x.Num(), x.Denom()).Int64()) }

func ceilBig(x *big.Rat) int { return -floorBig(new(big.Rat).Neg(x)) }

func lowest(num, den int) bool {
	return new(big.Int).GCD(nil, nil, new(big.Int).Abs(big.NewInt(int64(num))), big.NewInt(int64(den))).Cmp(big.NewInt(1)) == 0
}

// smallRats are all valid numbers with a numerator and a denominator up to most, up to the sign.
func smallRats(most int) []api.Rat {
	var l []api.Rat
	for den := 1; den <= most; den++ {
		for num := -most; num <= most; num++ {
			if lowest(num, den) {
				l = append(l, rat(num, den))
			}
		}
	}
	return l
}

// edgeRats are valid numbers of all sizes, up to the greatest ones.
func edgeRats() []api.Rat {
	parts := []int{0, 1, 2, 3, 7, 93, 46341, 65536, 1 << 30, maxNum - 2, maxNum - 1, maxNum}
	var l []api.Rat
	for _, den := range parts[1:] {
		for _, num := range parts {
			if !lowest(num, den) {
				continue
			}
			l = append(l, rat(num, den))
			if num > 0 {
				l = append(l, rat(-num, den))
			}
		}
	}
	return l
}

// randomRats are always the same valid numbers, of which each size of a part is about equally frequent.
func randomRats(count int) []api.Rat {
	r := rand.New(rand.NewSource(1))
	var l []api.Rat
	for len(l) < count {
		num, den := r.Intn(maxNum)>>r.Intn(31), 1+r.Intn(maxNum)>>r.Intn(31)
		if r.Intn(2) == 0 {
			num = -num
		}
		if lowest(num, den) {
			l = append(l, rat(num, den))
		}
	}
	return l
}

// ranges are all intervals whose ends are of a list.
func ranges(l []api.Rat) []api.Range {
	var out []api.Range
	for _, a := range l {
		for _, b := range l {
			if toBig(a).Cmp(toBig(b)) <= 0 {
				out = append(out, between(a, b))
			}
		}
	}
	return out
}
