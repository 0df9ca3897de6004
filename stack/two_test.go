package stack_test

import (
	"math/rand"
	"slices"
	"testing"

	"wringing/api"
	"wringing/stack"
)

func TestTwoExamples(t *testing.T) {
	ten := binary(api.MaxPair)
	eleven := binary(api.MaxPair + 1)
	for i, c := range []struct {
		box        []api.Block
		a, b       api.Want
		one, other []int
		e          api.Errno
	}{
		{example(), want(2010, 0, 0), want(7000, 0, 0), []int{1, 2}, []int{4, 5}, api.OK},
		{example(), want(7000, 0, 0), want(2010, 0, 0), []int{4, 5}, []int{1, 2}, api.OK},
		{example(), want(2010, 0, 0), want(6000, 0, 0), nil, nil, api.ErrNone}, // 1 2 and 1 5
		{example(), want(2011, 0, 1), want(7000, 0, 0), []int{1, 2}, []int{4, 5}, api.OK},
		{example(), want(2011, 0, 1), want(7002, 0, 2), []int{1, 2}, []int{4, 5}, api.OK}, // each one has its film
		{example(), want(2010, 0, 0), want(7000, 0, 1), nil, nil, api.ErrNone},
		{example(), want(3021, 0, 0), want(1000, 0, 0), nil, nil, api.ErrNone},
		{example(), want(1000, 0, 0), want(3021, 0, 0), nil, nil, api.ErrNone},
		{example(), want(1000, 0, 0), want(1000, 0, 0), nil, nil, api.ErrNone},
		{example(), want(1000, 0, 0), want(1000, 10, 0), []int{1}, []int{2}, api.OK},
		{example(), want(1000, 10, 0), want(1000, 0, 0), []int{2}, []int{1}, api.OK},
		{example(), want(1000, 10, 0), want(1000, 10, 0), []int{1}, []int{2}, api.OK},
		{nil, want(5, 5, 0), want(5, 5, 0), nil, nil, api.ErrNone},
		{boxOf(5), want(5, 5, 0), want(5, 5, 0), nil, nil, api.ErrNone},
		{boxOf(5, 5), want(1, api.MaxLen, 0), want(1, api.MaxLen, 0), []int{1}, []int{2}, api.OK},
		{boxOf(3, 1, 2, 1, 2), want(3, 0, 0), want(3, 0, 0), []int{1}, []int{2, 3}, api.OK},
		{boxOf(6, 1, 5, 3, 3), want(6, 0, 0), want(6, 1, 0), []int{1}, []int{3}, api.OK},
		{boxOf(4, 7, 3), want(7, 0, 0), want(7, 0, 0), []int{2}, []int{1, 3}, api.OK}, // 1 3 and 2 are as many
		{boxOf(8, 3, 5), want(8, 0, 0), want(8, 0, 1), []int{2, 3}, []int{1}, api.OK}, // 1 is needed for the second one
		// What comes first for the first want, 1, leaves only 4 5 6 for the second one.
		{boxOf(80, 30, 50, 23, 25, 26), want(80, 0, 0), want(80, 0, 3), []int{2, 3}, []int{1}, api.OK},
		{boxOf(8, 3, 5, 2, 2, 2, 6), want(8, 0, 0), want(8, 0, 0), []int{1}, []int{2, 3}, api.OK},
		{ten, want(1, 0, 0), want(1022, 0, 0), []int{1}, []int{2, 3, 4, 5, 6, 7, 8, 9, 10}, api.OK},
		{ten, want(1, 0, 0), want(1023, 0, 0), nil, nil, api.ErrNone},
		{ten, want(341, 0, 0), want(682, 0, 0), []int{1, 3, 5, 7, 9}, []int{2, 4, 6, 8, 10}, api.OK},
		{ten, want(1, api.MaxLen, 0), want(1, api.MaxLen, 0), []int{1}, []int{2}, api.OK},
		{eleven, want(1, 0, 0), want(2, 0, 0), nil, nil, api.ErrLimit},
		{eleven, want(api.MaxLen, 0, 0), want(2, 0, 0), nil, nil, api.ErrLimit},
		{longest(), want(1, 0, 0), want(2, 0, 0), nil, nil, api.ErrLimit},
		{longer(), want(1, 0, 0), want(2, 0, 0), nil, nil, api.ErrLimit},
		{longer(), want(0, 0, 0), want(2, 0, 0), nil, nil, api.ErrLimit},
		{eleven, want(0, 0, 0), want(2, 0, 0), nil, nil, api.ErrArg},
		{eleven, want(1, 0, 0), want(2, -1, 0), nil, nil, api.ErrArg},
		{longest()[:2], want(mostBlock, 0, 0), want(mostBlock, 0, 0), []int{1}, []int{2}, api.OK},
	} {
		if one, other, e := stack.Two(c.box, c.a, c.b); !slices.Equal(one, c.one) || !slices.Equal(other, c.other) || e != c.e {
			t.Error("P4.7: Two:", i, one, other, e)
		}
	}
}

// bestPair returns the best pair, by going through all pairs of good stacks.
func bestPair(box []api.Block, a, b api.Want) (one, other []int) {
	fewest := mostInt
	for _, x := range goodStacks(box, a) {
		for _, y := range goodStacks(box, b) {
			if slices.ContainsFunc(x, func(id int) bool { return slices.Contains(y, id) }) {
				continue
			}
			n := len(x) + len(y)
			if n < fewest || n == fewest && (compareStacks(x, one) < 0 || slices.Equal(x, one) && compareStacks(y, other) < 0) {
				one, other, fewest = x, y, n
			}
		}
	}
	return one, other
}

func TestTwo(t *testing.T) {
	r := rand.New(rand.NewSource(14))
	pairs := 0
	for _, x := range trials(1200, 7) {
		b := want(min(1+r.Intn(2*x.w.Len), api.MaxLen), r.Intn(4), r.Intn(3))
		if r.Intn(2) == 0 {
			b = x.w
			b.Tol += r.Intn(5)
		}
		b.Tol = min(b.Tol, api.MaxLen)
		one, other := bestPair(x.box, x.w, b)
		e := api.OK
		if one == nil {
			e = api.ErrNone
		} else {
			pairs++
		}
		if l, m, f := stack.Two(x.box, x.w, b); !slices.Equal(l, one) || !slices.Equal(m, other) || f != e {
			t.Fatal("P4.7: Two:", x, b, l, m, f, one, other)
		}
	}
	if pairs < 100 {
		t.Error("too few pairs are tested:", pairs)
	}
}

// TestTwoAreGoodAndApart looks at the pair of larger boxes.
func TestTwoAreGoodAndApart(t *testing.T) {
	r := rand.New(rand.NewSource(15))
	for range 100 {
		box := randomBox(r, api.MaxPair, 12)
		a, b := want(1+r.Intn(40), r.Intn(2), r.Intn(2)), want(1+r.Intn(40), r.Intn(2), 0)
		one, other, e := stack.Two(box, a, b)
		if e == api.ErrNone {
			if x, _ := bestPair(box, a, b); x != nil {
				t.Fatal("P4.15: Two finds no pair:", box, a, b, x)
			}
			continue
		}
		if e != api.OK || !isGood(t, box, a, one) || !isGood(t, box, b, other) {
			t.Fatal("P4.15: Two:", box, a, b, one, other, e)
		}
		x, y := bestPair(box, a, b)
		if slices.ContainsFunc(one, func(id int) bool { return slices.Contains(other, id) }) || len(one)+len(other) != len(x)+len(y) {
			t.Fatal("P4.15: Two:", box, a, b, one, other, x, y)
		}
	}
}
