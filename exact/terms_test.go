package exact_test

import (
	"math/big"
	"math/rand"
	"slices"
	"testing"

	"wringing/api"
	"wringing/exact"
)

// foldBig is the number of a continued fraction that has terms and is valid.
func foldBig(l []int) *big.Rat {
	x := new(big.Rat).SetInt64(int64(l[len(l)-1]))
	for _, term := range slices.Backward(l[:len(l)-1]) {
		x.Add(new(big.Rat).SetInt64(int64(term)), x.Inv(x))
	}
	return x
}

func TestExpand(t *testing.T) {
	for _, c := range []struct {
		a    api.Rat
		want []int
	}{
		{rat(-3, 2), []int{-2, 2}},
		{rat(415, 93), []int{4, 2, 6, 7}},
		{rat(5, 1), []int{5}},
		{rat(0, 1), []int{0}},
		{rat(-7, 1), []int{-7}},
		{rat(1, 2), []int{0, 2}},
		{rat(-1, 3), []int{-1, 1, 2}},
		{rat(1, maxNum), []int{0, maxNum}},
		{rat(-1, maxNum), []int{-1, 1, maxNum - 1}},
		{rat(-maxNum, 1), []int{-maxNum}},
	} {
		if l, e := exact.Expand(c.a); !slices.Equal(l, c.want) || e != api.OK {
			t.Fatal("P1.5: Expand:", c.a, l, e)
		}
	}
	for _, bad := range badRats {
		if l, e := exact.Expand(bad); len(l) != 0 || e != api.ErrArg {
			t.Fatal("P1.5: Expand:", bad, l, e)
		}
	}
}

func TestExpandForm(t *testing.T) {
	for _, list := range [][]api.Rat{edgeRats(), smallRats(12), randomRats(500)} {
		for _, a := range list {
			l, e := exact.Expand(a)
			if e != api.OK || len(l) == 0 || len(l) > api.MaxTerms {
				t.Fatal("P1.5, P1.15: Expand:", a, l, e)
			}
			for i, term := range l[1:] {
				if term < 1 || i+2 == len(l) && term < 2 {
					t.Fatal("P1.5: Expand:", a, l)
				}
			}
			if foldBig(l).Cmp(toBig(a)) != 0 {
				t.Fatal("P1.5: Expand:", a, l)
			}
		}
	}
}

func TestFold(t *testing.T) {
	ones := slices.Repeat([]int{1}, 60)
	for _, c := range []struct {
		l    []int
		want api.Rat
		e    api.Errno
	}{
		{[]int{0, 1}, rat(1, 1), api.OK},
		{[]int{-2, 2}, rat(-3, 2), api.OK},
		{[]int{4, 2, 6, 7}, rat(415, 93), api.OK},
		{[]int{4, 2, 6, 6, 1}, rat(415, 93), api.OK},
		{[]int{5}, rat(5, 1), api.OK},
		{[]int{0}, rat(0, 1), api.OK},
		{[]int{-1, 1}, rat(0, 1), api.OK},
		{nil, api.Rat{}, api.ErrArg},
		{[]int{}, api.Rat{}, api.ErrArg},
		{[]int{1, 0}, api.Rat{}, api.ErrArg},
		{[]int{1, 2, -1}, api.Rat{}, api.ErrArg},
		{[]int{1, 2, 0, 3}, api.Rat{}, api.ErrArg},
		{[]int{1, 0, mostInt}, api.Rat{}, api.ErrArg},
		{[]int{mostInt, leastInt}, api.Rat{}, api.ErrArg},
		{[]int{mostInt}, api.Rat{}, api.ErrRange},
		{[]int{leastInt}, api.Rat{}, api.ErrRange},
		{[]int{leastInt, 1}, api.Rat{}, api.ErrRange},
		{[]int{mostInt, 1}, api.Rat{}, api.ErrRange},
		{[]int{leastInt, 2}, api.Rat{}, api.ErrRange},
		{[]int{1 << 62, 4}, api.Rat{}, api.ErrRange},
		{[]int{0, 1 << 62, 4}, api.Rat{}, api.ErrRange},
		{[]int{0, 4, 1 << 62}, api.Rat{}, api.ErrRange},
		{[]int{0, mostInt, 1}, api.Rat{}, api.ErrRange},
		{[]int{0, mostInt, mostInt, mostInt}, api.Rat{}, api.ErrRange},
		{[]int{maxNum}, rat(maxNum, 1), api.OK},
		{[]int{-maxNum}, rat(-maxNum, 1), api.OK},
		{[]int{maxNum + 1}, api.Rat{}, api.ErrRange},
		{[]int{-maxNum - 1}, api.Rat{}, api.ErrRange},
		{[]int{maxNum, 1}, api.Rat{}, api.ErrRange},
		{[]int{maxNum - 1, 1}, rat(maxNum, 1), api.OK},
		{[]int{-maxNum - 1, 1}, rat(-maxNum, 1), api.OK},
		{[]int{-maxNum - 2, 1}, api.Rat{}, api.ErrRange},
		{[]int{-maxNum - 1, 2}, api.Rat{}, api.ErrRange},
		{[]int{0, maxNum}, rat(1, maxNum), api.OK},
		{[]int{0, maxNum + 1}, api.Rat{}, api.ErrRange},
		{[]int{0, maxNum - 1, 1}, rat(1, maxNum), api.OK},
		{[]int{0, maxNum, 1}, api.Rat{}, api.ErrRange},
		{[]int{0, 1, maxNum - 1}, rat(maxNum-1, maxNum), api.OK},
		{ones[:46], rat(2971215073, 1836311903), api.ErrRange},
		{ones[:45], rat(1836311903, 1134903170), api.OK},
		{ones[:50], api.Rat{}, api.ErrRange},
		{ones[:51], api.Rat{}, api.ErrLimit},
		{make([]int, 51), api.Rat{}, api.ErrLimit},
		{make([]int, 50), api.Rat{}, api.ErrArg},
	} {
		if c.e != api.OK {
			c.want = api.Rat{}
		}
		if r, e := exact.Fold(c.l); r != c.want || e != c.e {
			t.Fatal("P1.5: Fold:", c.l, r, e)
		}
	}
}

func TestFoldRandom(t *testing.T) {
	random := rand.New(rand.NewSource(5))
	for range 20000 {
		l := make([]int, 1+random.Intn(50))
		size := 1 + random.Intn(min(62, 1+100/len(l)))
		for i := range l {
			l[i] = 1 + random.Intn(1<<size)
		}
		l[0] -= random.Intn(1 << size)
		want, wantE := fromBig(foldBig(l))
		if r, e := exact.Fold(l); r != want || e != wantE {
			t.Fatal("P1.5: Fold:", l, r, e)
		}
	}
}

func TestFoldKeepsItsArgument(t *testing.T) {
	back := []int{4, 2, 6, 7, 99, 98}
	exact.Fold(back[:4])
	if !slices.Equal(back, []int{4, 2, 6, 7, 99, 98}) {
		t.Error("P1.5: Fold changed its argument:", back)
	}
}

func TestExpandIsNewMemory(t *testing.T) {
	first, _ := exact.Expand(rat(415, 93))
	second, _ := exact.Expand(rat(415, 93))
	for i := range first {
		first[i] = -1
	}
	third, _ := exact.Expand(rat(415, 93))
	if want := []int{4, 2, 6, 7}; !slices.Equal(second, want) || !slices.Equal(third, want) {
		t.Error("P1.5: Expand shares memory:", second, third)
	}
}

func TestSimplestExamples(t *testing.T) {
	for _, c := range []struct {
		lo, hi, want api.Rat
	}{
		{rat(5, 7), rat(3, 4), rat(3, 4)},
		{rat(3, 10), rat(7, 10), rat(1, 2)},
		{rat(-7, 2), rat(-4, 3), rat(-2, 1)},
		{rat(-1, 1), rat(5, 1), rat(0, 1)},
		{rat(0, 1), rat(1, 2), rat(0, 1)},
		{rat(-1, 2), rat(0, 1), rat(0, 1)},
		{rat(-1, 2), rat(1, 3), rat(0, 1)},
		{rat(2, 1), rat(9, 1), rat(2, 1)},
		{rat(-9, 1), rat(-2, 1), rat(-2, 1)},
		{rat(1, 3), rat(1, 1), rat(1, 1)},
		{rat(-3, 4), rat(-5, 7), rat(-3, 4)},
		{rat(3141, 1000), rat(1571, 500), rat(245, 78)},
		{rat(7, 9), rat(7, 9), rat(7, 9)},
		{rat(maxNum-1, maxNum), rat(maxNum-1, maxNum), rat(maxNum-1, maxNum)},
		{rat(maxNum-2, maxNum-1), rat(maxNum-1, maxNum), rat(maxNum-2, maxNum-1)},
		{rat(1, maxNum), rat(1, maxNum-1), rat(1, maxNum-1)},
		{rat(-1, maxNum-1), rat(-1, maxNum), rat(-1, maxNum-1)},
		{rat(-maxNum, 1), rat(-maxNum, 1), rat(-maxNum, 1)},
		{rat(-maxNum, 1), rat(maxNum, 1), rat(0, 1)},
	} {
		if r, e := exact.Simplest(between(c.lo, c.hi)); r != c.want || e != api.OK {
			t.Fatal("P1.6:", c.lo, c.hi, r, e)
		}
	}
	for _, bad := range badRanges {
		if r, e := exact.Simplest(bad); r != (api.Rat{}) || e != api.ErrArg {
			t.Fatal("P1.6:", bad, r, e)
		}
	}
}

// simplestBig tries all denominators, from the least one on, for an interval whose simplest denominator is small.
func simplestBig(x api.Range) api.Rat {
	for den := 1; ; den++ {
		times := new(big.Rat).SetInt64(int64(den))
		lo := ceilBig(new(big.Rat).Mul(toBig(x.Lo), times))
		hi := floorBig(new(big.Rat).Mul(toBig(x.Hi), times))
		if lo <= hi {
			return rat(min(max(0, lo), hi), den)
		}
	}
}

func TestSimplest(t *testing.T) {
	for _, x := range ranges(smallRats(8)) {
		if r, e := exact.Simplest(x); r != simplestBig(x) || e != api.OK {
			t.Fatal("P1.6, P1.16:", x, r, e)
		}
	}
	l := randomRats(400)
	for i, a := range l[1:] {
		x := between(l[i], a)
		if toBig(x.Lo).Cmp(toBig(x.Hi)) > 0 {
			x = between(a, l[i])
		}
		if r, e := exact.Simplest(x); r != simplestBig(x) || e != api.OK {
			t.Fatal("P1.6, P1.16:", x, r, e)
		}
	}
}

// TestSimplestNested narrows intervals towards their simplest number, which has to stay the same.
func TestSimplestNested(t *testing.T) {
	for _, outer := range ranges(smallRats(5)) {
		want, _ := exact.Simplest(outer)
		for _, inner := range ranges(smallRats(5)) {
			if !exact.Has(outer, inner.Lo) || !exact.Has(outer, inner.Hi) || !exact.Has(inner, want) {
				continue
			}
			if r, e := exact.Simplest(inner); r != want || e != api.OK {
				t.Fatal("P1.16:", outer, inner, r, e)
			}
		}
	}
}

// bestBig tries all denominators; among equally close numbers it takes the least one.
func bestBig(a api.Rat, most int) api.Rat {
	best := rat(0, 0)
	for den := 1; den <= most; den++ {
		down := a.Num * den / a.Den
		for num := down - 1; num <= down+1; num++ {
			if best.Den == 0 || nearer(a, rat(num, den), best) {
				best = rat(num, den)
			}
		}
	}
	r, _ := fromBig(toBig(best))
	return r
}

func nearer(a, p, q api.Rat) bool {
	offP, offQ := abs(a.Num*p.Den-p.Num*a.Den)*q.Den, abs(a.Num*q.Den-q.Num*a.Den)*p.Den
	return offP < offQ || offP == offQ && p.Num*q.Den < q.Num*p.Den
}

func abs(n int) int { return max(n, -n) }

func TestBestExamples(t *testing.T) {
	for _, c := range []struct {
		a    api.Rat
		most int
		want api.Rat
	}{
		{rat(355, 113), 10, rat(22, 7)},
		{rat(1, 2), 1, rat(0, 1)},
		{rat(-1, 2), 1, rat(-1, 1)},
		{rat(3, 2), 1, rat(1, 1)},
		{rat(2, 3), 1, rat(1, 1)},
		{rat(1, 4), 3, rat(1, 3)},
		{rat(-1, 4), 3, rat(-1, 3)},
		{rat(355, 113), 112, rat(333, 106)},
		{rat(355, 113), 113, rat(355, 113)},
		{rat(1, maxNum), api.MaxBest, rat(0, 1)},
		{rat(maxNum-1, maxNum), api.MaxBest, rat(1, 1)},
		{rat(maxNum, 2), 1, rat(maxNum/2, 1)},
		{rat(-maxNum, 2), 1, rat(-maxNum/2-1, 1)},
		{rat(maxNum, 1), 1, rat(maxNum, 1)},
		{rat(-maxNum, 1), api.MaxBest, rat(-maxNum, 1)},
	} {
		if r, e := exact.Best(c.a, c.most); r != c.want || e != api.OK {
			t.Fatal("P1.7:", c.a, c.most, r, e)
		}
	}
	for _, most := range []int{0, -1, leastInt, api.MaxBest + 1, mostInt} {
		if r, e := exact.Best(rat(1, 2), most); r != (api.Rat{}) || e != api.ErrArg {
			t.Fatal("P1.7:", most, r, e)
		}
	}
	for _, bad := range badRats {
		for _, most := range []int{0, 1, api.MaxBest} {
			if r, e := exact.Best(bad, most); r != (api.Rat{}) || e != api.ErrArg {
				t.Fatal("P1.7:", bad, most, r, e)
			}
		}
	}
}

func TestBest(t *testing.T) {
	for _, l := range [][]api.Rat{edgeRats(), smallRats(16), randomRats(300)} {
		for _, a := range l {
			for _, most := range []int{1, 2, 3, 4, 5, 7, 12, 30} {
				if r, e := exact.Best(a, most); r != bestBig(a, most) || e != api.OK {
					t.Fatal("P1.7, P1.17:", a, most, r, e)
				}
			}
		}
	}
	for _, a := range append(randomRats(20), rat(1836311903, 1134903170), rat(-maxNum, maxNum-1)) {
		for _, most := range []int{1000, 46341, api.MaxBest} {
			if r, e := exact.Best(a, most); r != bestBig(a, most) || e != api.OK {
				t.Fatal("P1.7, P1.17:", a, most, r, e)
			}
		}
	}
}

func TestBestGrows(t *testing.T) {
	for _, a := range append(randomRats(60), smallRats(9)...) {
		last, _ := exact.Best(a, 1)
		for most := 2; most <= 200; most++ {
			next, e := exact.Best(a, most)
			if e != api.OK || abs(a.Num*last.Den-last.Num*a.Den)*next.Den < abs(a.Num*next.Den-next.Num*a.Den)*last.Den {
				t.Fatal("P1.17:", a, most, last, next, e)
			}
			if a.Den <= most && next != a {
				t.Fatal("P1.17: Best of a number with a small denominator:", a, most, next)
			}
			last = next
		}
	}
}

func TestFoldOfExpand(t *testing.T) {
	for _, list := range [][]api.Rat{edgeRats(), smallRats(12), randomRats(500)} {
		for _, a := range list {
			l, _ := exact.Expand(a)
			if r, e := exact.Fold(l); r != a || e != api.OK {
				t.Fatal("P1.15:", a, l, r, e)
			}
		}
	}
	// Quotients of neighbouring Fibonacci numbers have the most terms for their size.
	a, b := 1, 1
	for a <= maxNum {
		for _, x := range []api.Rat{rat(a, b), rat(b, a), rat(-a, b), rat(-b, a)} {
			if l, e := exact.Expand(x); e != api.OK || len(l) > api.MaxTerms {
				t.Fatal("P1.15:", x, l, e)
			}
		}
		a, b = a+b, a
	}
}

func TestExpandOfFold(t *testing.T) {
	random := rand.New(rand.NewSource(15))
	for range 5000 {
		l := make([]int, 1+random.Intn(12))
		for i := range l {
			l[i] = 1 + random.Intn(5)
		}
		l[0] -= 3
		if last := len(l) - 1; last > 0 && l[last] == 1 {
			l[last] = 2
		}
		a, e := exact.Fold(l)
		if e != api.OK {
			t.Fatal("P1.15:", l, e)
		}
		if again, e := exact.Expand(a); !slices.Equal(again, l) || e != api.OK {
			t.Fatal("P1.15:", l, a, again, e)
		}
	}
}
