package stack_test

import (
	"slices"
	"testing"

	"wringing/api"
	"wringing/stack"
)

func TestCheck(t *testing.T) {
	for i, c := range badBoxes() {
		if e, at := stack.Check(c.box); e != c.e || at != c.at {
			t.Error("P4.1: Check:", i, e, at)
		}
	}
	for i, box := range [][]api.Block{
		nil, {}, example(), longest(), binary(20), {block(1, 1), block(api.MaxID, mostBlock)}, {block(api.MaxID, 1)}, {block(5, 9), block(6, 9)}, {block(5, 9), block(6, 1)},
	} {
		if e, at := stack.Check(box); e != api.OK || at != -1 {
			t.Error("P4.1: Check:", i, e, at)
		}
	}
	if mostBlock != 56294995342131 {
		t.Error("the longest block:", mostBlock)
	}
}

func TestCheckWant(t *testing.T) {
	for i, w := range badWants() {
		if e := stack.CheckWant(w); e != api.ErrArg {
			t.Error("P4.1: CheckWant:", i, e)
		}
	}
	for i, w := range []api.Want{
		want(1, 0, 0), want(api.MaxLen, 0, 0), want(1, api.MaxLen, 0), want(1, 0, api.MaxFilm), want(api.MaxLen, api.MaxLen, api.MaxFilm),
	} {
		if e := stack.CheckWant(w); e != api.OK {
			t.Error("P4.1: CheckWant:", i, e)
		}
	}
}

// TestErrorOfCheckComesFirst gives invalid boxes together with valid and invalid other arguments.
func TestErrorOfCheckComesFirst(t *testing.T) {
	fine := given{ids: []int{7}, other: want(1, 0, 0), step: 1, count: 1, film: 0, blocks: 1}
	for i, c := range badBoxes() {
		for _, w := range []api.Want{want(100, 0, 0), want(0, 0, 0)} {
			for _, f := range slices.Concat(calls(fine), calls(given{film: -1})) {
				if x, e := f.run(c.box, w); e != c.e || !isNothing(x) {
					t.Error("P4.1: the error of Check:", f.name, i, x, e)
				}
			}
		}
	}
}

// TestErrorOfCheckWantComesSecond gives invalid wants where there would be another error otherwise.
func TestErrorOfCheckWantComesSecond(t *testing.T) {
	unknown := given{ids: []int{99}, other: want(1, 0, 0), step: 1, count: 1, film: 0, blocks: 1}
	far := given{ids: []int{2, 1}, other: want(1, 0, 0), step: api.MaxLen, count: api.MaxSteps, blocks: 1}
	for i, w := range badWants() {
		for _, box := range [][]api.Block{nil, example(), boxOf(slices.Repeat([]int{5}, api.MaxPair+1)...)} {
			for _, f := range slices.Concat(calls(unknown), calls(far)) {
				if x, e := f.run(box, w); f.wants && (e != api.ErrArg || !isNothing(x)) {
					t.Error("P4.1: the error of CheckWant:", f.name, i, x, e)
				}
			}
		}
	}
}

func TestLengthExamples(t *testing.T) {
	twenty := []int{1, 2, 3, 4, 5, 6, 7, 8, 9, 10, 11, 12, 13, 14, 15, 16, 17, 18, 19, 20}
	gaps := []api.Block{block(3, 10), block(5, 20), block(api.MaxID, 40)}
	for i, c := range []struct {
		box    []api.Block
		w      api.Want
		ids    []int
		length int
		e      api.Errno
	}{
		{example(), want(3020, 0, 0), []int{3, 4}, 3020, api.OK},
		{example(), want(3020, 0, 1), []int{3, 4}, 3021, api.OK},
		{example(), want(1, 0, 7), []int{1}, 1000, api.OK},
		{example(), want(1, 0, 7), []int{1, 2, 3, 4, 5}, 10058, api.OK},
		{gaps, want(1, 0, 0), []int{3, api.MaxID}, 50, api.OK},
		{longest(), want(1, 0, api.MaxFilm), twenty, api.MaxBox*mostBlock + 19*api.MaxFilm, api.OK},
		{example(), want(1, 0, 0), nil, 0, api.ErrArg},
		{example(), want(1, 0, 0), []int{}, 0, api.ErrArg},
		{nil, want(1, 0, 0), nil, 0, api.ErrArg},
		{nil, want(1, 0, 0), []int{1}, 0, api.ErrNone},
		{example(), want(1, 0, 0), []int{6}, 0, api.ErrNone},
		{example(), want(1, 0, 0), []int{0}, 0, api.ErrNone},
		{example(), want(1, 0, 0), []int{-1}, 0, api.ErrNone},
		{example(), want(1, 0, 0), []int{leastInt}, 0, api.ErrNone},
		{example(), want(1, 0, 0), []int{1, mostInt}, 0, api.ErrNone},
		{gaps, want(1, 0, 0), []int{3, 4}, 0, api.ErrNone},
		{example(), want(1, 0, 0), []int{1, 1}, 0, api.ErrTwice},
		{example(), want(1, 0, 0), []int{2, 1}, 0, api.ErrTwice},
		{example(), want(1, 0, 0), []int{1, 3, 2}, 0, api.ErrTwice},
		{example(), want(1, 0, 0), []int{3, 1, 9}, 0, api.ErrTwice}, // ID by ID
		{example(), want(1, 0, 0), []int{3, 9, 1}, 0, api.ErrNone},
		{example(), want(1, 0, 0), []int{3, 0}, 0, api.ErrNone}, // of the same ID first that there is none
		{example(), want(1, 0, 0), []int{9, 9}, 0, api.ErrNone},
		{example(), want(1, 0, 0), slices.Repeat([]int{1}, 5000), 0, api.ErrTwice},
	} {
		if length, e := stack.Length(c.box, c.w, c.ids); length != c.length || e != c.e {
			t.Error("P4.3: Length:", i, length, e)
		}
		if good, e := stack.Good(c.box, c.w, c.ids); e != c.e || good && e != api.OK {
			t.Error("P4.3: Good:", i, good, e)
		}
	}
}

func TestGoodExamples(t *testing.T) {
	for i, c := range []struct {
		box  []api.Block
		w    api.Want
		ids  []int
		good bool
	}{
		{example(), want(3020, 0, 0), []int{3, 4}, true},
		{example(), want(3019, 0, 0), []int{3, 4}, false},
		{example(), want(3021, 0, 0), []int{3, 4}, false},
		{example(), want(3021, 0, 1), []int{3, 4}, true},
		{example(), want(3020, 0, 1), []int{3, 4}, false},
		{example(), want(3025, 5, 0), []int{3, 4}, true},
		{example(), want(3026, 5, 0), []int{3, 4}, false},
		{example(), want(3015, 5, 0), []int{3, 4}, true},
		{example(), want(3014, 5, 0), []int{3, 4}, false},
		{example(), want(1, 999, 0), []int{1}, true},
		{example(), want(1, 998, 0), []int{1}, false},
		{example(), want(1, api.MaxLen, 0), []int{1, 2, 3, 4, 5}, true},
		{longest()[:1], want(api.MaxLen, api.MaxLen-mostBlock, 0), []int{1}, true},
		{longest()[:1], want(api.MaxLen, api.MaxLen-mostBlock-1, 0), []int{1}, false},
	} {
		if good, e := stack.Good(c.box, c.w, c.ids); good != c.good || e != api.OK {
			t.Error("P4.3: Good:", i, good, e)
		}
	}
}

func TestLengthAndGood(t *testing.T) {
	for _, x := range trials(150, 7) {
		all := goodStacks(x.box, x.w)
		for ids, sum := range stacksOf(x.box) {
			length, e := stack.Length(x.box, x.w, ids)
			if length != sum+(len(ids)-1)*x.w.Film || e != api.OK {
				t.Fatal("P4.3: Length:", x, ids, length, e)
			}
			listed := slices.ContainsFunc(all, func(l []int) bool { return slices.Equal(l, ids) })
			if isGood(t, x.box, x.w, ids) != listed {
				t.Fatal("P4.3: Good:", x, ids)
			}
		}
	}
}
