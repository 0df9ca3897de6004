package plate_test

import (
	"math/rand"
	"slices"
	"testing"

	"wringing/api"
	"wringing/plate"
)

// without is a list of walks without one of them.
func without(walks [][]int, which int) [][]int {
	return slices.Concat(walks[:which], walks[which+1:])
}

func checkProve(t *testing.T, s api.Shop, which int) {
	t.Helper()
	walks, e := plate.Prove(s, which)
	if !isFlat(t, s, which) {
		if len(walks) != 0 || e != api.ErrNone {
			t.Fatal("P3.10: Prove of a plate that is not flat:", s, which, walks, e)
		}
		return
	}
	if e != api.OK {
		t.Fatal("P3.10: Prove:", s, which, e)
	}
	if e := plate.CheckProof(s, which, walks); e != api.OK {
		t.Fatal("P3.16: CheckProof of Prove:", s, which, walks, e)
	}
	if l, ok := signsAt(s, which, walks); !ok || !proved(s.Side, l) {
		t.Fatal("P3.10: Prove returns no proof:", s, which, walks)
	}
	for i := range walks {
		if e := plate.CheckProof(s, which, without(walks, i)); e != api.ErrProof {
			t.Fatal("P3.10: Prove: a walk can be left out:", s, which, walks, i, e)
		}
	}
}

// signsAt returns the signs of lists, if all are closed walks from a plate.
func signsAt(s api.Shop, which int, walks [][]int) ([]api.Sign, bool) {
	var l []api.Sign
	for _, walk := range walks {
		to, at, ok := ends(s, which, walk)
		if !ok || to != which {
			return nil, false
		}
		l = append(l, at)
	}
	return l, true
}

func TestProveExamples(t *testing.T) {
	if e := plate.CheckProof(straight(), 0, [][]int{{0, 1, 2}}); e != api.OK {
		t.Error("P3.10: CheckProof:", e)
	}
	if walks, e := plate.Prove(straight(), 0); len(walks) != 1 || len(walks[0]) != 3 || e != api.OK {
		t.Error("P3.10: Prove:", walks, e)
	}
	if walks, e := plate.Prove(twisted(), 0); len(walks) != 0 || e != api.ErrNone {
		t.Error("P3.10: Prove of a twist:", walks, e)
	}
	if walks, e := plate.Prove(shop(1, 1), 0); len(walks) != 0 || e != api.OK {
		t.Error("P3.10: Prove with a single cell:", walks, e)
	}
	full := shop(1, 2, slices.Repeat([]api.Working{work(0, 1, 3)}, api.MaxWorkings)...)
	if walks, e := plate.Prove(full, 1); len(walks) != 0 || e != api.OK {
		t.Error("P3.10: Prove with a single cell:", walks, e)
	}
	for which := range 3 {
		checkProve(t, crossed(), which)
	}
}

func TestProve(t *testing.T) {
	for _, s := range shops(400, api.MaxGrid, 6) {
		for which := range s.Plates {
			checkProve(t, s, which)
		}
	}
}

func TestCheckProofExamples(t *testing.T) {
	s := crossed()
	turned := shop(2, 2, work(0, 1, 0), work(0, 1, 1), work(0, 1, 2), work(0, 1, 4))
	odd := shop(2, 3, work(0, 1, 0), work(1, 2, 0), work(2, 0, 1))
	three := shop(3, 3, work(0, 1, 0), work(1, 2, 0), work(2, 0, 0), work(2, 0, 2))
	for i, c := range []struct {
		s     api.Shop
		which int
		walks [][]int
		e     api.Errno
	}{
		{s, 0, [][]int{{0, 1, 2}, {3, -1}}, api.OK},
		{s, 0, [][]int{{3, -1}, {0, 1, 2}}, api.OK},
		{s, 0, [][]int{{3, 1, 2}, {0, 1, 2}}, api.OK},
		{s, 1, [][]int{{-1, 3}, {1, 2, 0}}, api.OK},
		{s, 0, [][]int{{0, 1, 2}, {3, -1}, nil, {0, 1, 2}}, api.OK},
		{s, 0, [][]int{{0, 1, 2}}, api.ErrProof},
		{s, 0, [][]int{{3, 1, 2}}, api.ErrProof},
		{s, 0, nil, api.ErrProof},
		{s, 0, [][]int{{}}, api.ErrProof},
		{s, 0, [][]int{{0, 1, 2}, {0, -1}}, api.ErrProof},
		{s, 0, [][]int{{0, 1, 2}, {3, -1}, {0}}, api.ErrProof},        // not closed
		{s, 0, [][]int{{0, 1, 2}, {3, -1}, {1}}, api.ErrProof},        // not from the plate
		{s, 0, [][]int{{0, 1, 2}, {3, -1}, {0, 0, -1}}, api.ErrProof}, // not a walk
		{s, 1, [][]int{{0, 1, 2}, {3, -1}}, api.ErrProof},
		{twisted(), 0, [][]int{{0, 1, 2}, {-3, -2, -1}, nil}, api.ErrProof},
		{straight(), 2, [][]int{{2, 0, 1}}, api.OK},
		{shop(1, 1), 0, nil, api.OK},
		{shop(1, 1), 0, [][]int{nil, nil}, api.OK},
		{shop(2, 1), 0, nil, api.ErrProof},
		{shop(1, 2, work(0, 1, 0)), 0, [][]int{{0}}, api.ErrProof},
		{shop(1, 3, work(0, 1, 0), work(1, 2, 3), work(2, 0, 4)), 0, [][]int{{0, 1, 2}}, api.OK},
		{turned, 0, [][]int{{0, -2}}, api.OK},          // a quarter turn joins all four cells
		{turned, 0, [][]int{{0, -3}}, api.ErrProof},    // a half turn does not
		{turned, 0, [][]int{{0, -3}, {0, -4}}, api.OK}, // but does with a reflection
		{turned, 0, [][]int{{0, -3}, {0, -3}}, api.ErrProof},
		{odd, 0, [][]int{{0, 1, 2}}, api.ErrProof}, // each way back has four odd joints
		{odd, 0, [][]int{{0, 1, 2}, {0, 1, 2, 0, 1, 2}}, api.ErrProof},
		{three, 0, [][]int{{0, 1, 3}}, api.ErrProof}, // only the cell in the middle comes back oddly
		{three, 0, [][]int{{0, 1, 3}, {0, 1, 2}}, api.OK},
		{three, 0, [][]int{{0, 1, 2, 0, 1, 3}}, api.ErrProof},
		{three, 0, [][]int{{0, 1, 2, 0, 1, 3}, {0, 1, 3}}, api.OK}, // a joint with Minus, and back without
	} {
		if e := plate.CheckProof(c.s, c.which, c.walks); e != c.e {
			t.Error("P3.10: CheckProof:", i, e)
		}
	}
}

func TestCheckProofErrors(t *testing.T) {
	s := straight()
	around := []int{0, 1, 2}
	odd := slices.Concat(slices.Repeat(around, api.MaxWalk/3-1), []int{0, -1})
	open := slices.Concat(odd, []int{0})
	tooLong := slices.Concat(open, []int{-1})
	for i, c := range []struct {
		walks [][]int
		e     api.Errno
	}{
		{slices.Repeat([][]int{around}, api.MaxWalks), api.OK},
		{slices.Repeat([][]int{around}, api.MaxWalks+1), api.ErrLimit},
		{slices.Repeat([][]int{{99}}, api.MaxWalks+1), api.ErrLimit},
		{[][]int{odd}, api.OK},
		{[][]int{around, slices.Repeat(around, api.MaxWalk/3)}, api.OK},
		{[][]int{open}, api.ErrProof}, // as many steps as there may be, but not closed
		{[][]int{tooLong}, api.ErrLimit},
		{[][]int{around, {0, 99}, tooLong}, api.ErrLimit}, // the limit is looked for in all walks first
		{[][]int{around, {1}, {3}}, api.ErrArg},           // and then the steps are, before any walk is followed
		{[][]int{around, {-4}}, api.ErrArg},
		{[][]int{around, {leastInt}}, api.ErrArg},
		{[][]int{around, {mostInt}}, api.ErrArg},
		{[][]int{around, slices.Repeat([]int{3}, api.MaxWalk)}, api.ErrArg},
	} {
		if e := plate.CheckProof(s, 0, c.walks); e != c.e {
			t.Error("P3.10: CheckProof:", i, len(c.walks), e)
		}
	}
}

// TestCheckProof gives closed walks of all kinds, and some that are not closed.
func TestCheckProof(t *testing.T) {
	r := rand.New(rand.NewSource(13))
	accepted := 0
	for _, s := range shops(1500, 3, 4) {
		which := r.Intn(s.Plates)
		var walks [][]int
		for range r.Intn(4) {
			l := signs(t, s, which)
			walk, e := plate.Walk(s, which, l[r.Intn(len(l))])
			if e != api.OK {
				t.Fatal("P3.6: Walk:", s, which, e)
			}
			walks = append(walks, walk)
		}
		if r.Intn(10) == 0 {
			walk, _ := randomWalk(r, s, r.Intn(s.Plates))
			walks = append(walks, walk)
		}
		l, closed := signsAt(s, which, walks)
		want := api.ErrProof
		if closed && proved(s.Side, l) {
			want = api.OK
			accepted++
		}
		if e := plate.CheckProof(s, which, walks); e != want {
			t.Fatal("P3.10: CheckProof:", s, which, walks, e)
		}
		if want == api.OK && freedomOf(s, which) != 0 {
			t.Fatal("P3.16: CheckProof accepts a list, and the plate is not flat:", s, which, walks)
		}
	}
	if accepted < 100 {
		t.Error("too few proofs are tested:", accepted)
	}
}
