package stack_test

import (
	"slices"
	"testing"

	"wringing/api"
	"wringing/stack"
)

func TestMakeExamples(t *testing.T) {
	// The two stacks of two blocks of which the lists are compared have their blocks in both parts of the box.
	wide := boxOf(slices.Concat([]int{1, 7}, slices.Repeat([]int{100}, 8), []int{3, 9}, slices.Repeat([]int{100}, 8))...)
	for i, c := range []struct {
		box   []api.Block
		w     api.Want
		ids   []int
		count int
	}{
		{example(), want(3020, 0, 0), []int{3, 4}, 1},
		{example(), want(3020, 5, 0), []int{3, 4}, 1},
		{example(), want(3030, 10, 0), []int{3, 4}, 2},
		{example(), want(3021, 0, 1), []int{3, 4}, 1},
		{example(), want(3021, 0, 0), nil, 0},
		{example(), want(1, api.MaxLen, 0), []int{1}, 31},
		{example(), want(1, 999, 0), []int{1}, 1},
		{example(), want(1, 998, 0), nil, 0},
		{nil, want(1, 0, 0), nil, 0},
		{nil, want(5, 5, 0), nil, 0}, // the empty set is no stack, even where its length would fit
		{boxOf(9), want(5, 5, 5), []int{1}, 1},
		{boxOf(11), want(5, 5, 5), nil, 0},
		{boxOf(1, 2, 3), want(3, 0, 0), []int{3}, 2},          // one block rather than two
		{boxOf(6, 1, 5, 2, 4), want(6, 0, 0), []int{1}, 3},    // 1, 2 3, 4 5
		{boxOf(1, 5, 2, 4), want(6, 0, 0), []int{1, 2}, 2},    // 1 2, 3 4
		{boxOf(1, 2, 4, 5), want(6, 0, 0), []int{1, 4}, 2},    // 1 4, 2 3
		{boxOf(1, 1, 4, 4, 4), want(5, 0, 0), []int{1, 3}, 6}, // 1 3 is the first one of six
		{boxOf(3, 3, 1, 1), want(5, 0, 0), []int{1, 3, 4}, 2}, // 1 3 4, 2 3 4
		{wide, want(10, 0, 0), []int{1, 12}, 2},               // 1 12, 2 11
		{wide, want(300, 0, 0), []int{3, 4, 5}, 560},          // three of sixteen
		{longest(), want(api.MaxBox*mostBlock, 0, 0), []int{1, 2, 3, 4, 5, 6, 7, 8, 9, 10, 11, 12, 13, 14, 15, 16, 17, 18, 19, 20}, 1},
		{longest(), want(api.MaxLen, 0, 0), nil, 0},
		{longest(), want(10*mostBlock+9*api.MaxFilm, 0, api.MaxFilm), []int{1, 2, 3, 4, 5, 6, 7, 8, 9, 10}, 184756},
		{longest(), want(1, api.MaxLen, api.MaxFilm), []int{1}, 1<<20 - 2}, // all but the whole box, which is too long
		{longest(), want(api.MaxLen, api.MaxLen, api.MaxFilm), []int{1}, 1<<20 - 1},
		{binary(20), want(1<<20-1, 0, 0), []int{1, 2, 3, 4, 5, 6, 7, 8, 9, 10, 11, 12, 13, 14, 15, 16, 17, 18, 19, 20}, 1},
		{binary(20), want(1<<20, 0, 0), nil, 0},
		{binary(20), want(1<<19+1<<5+1, 0, 0), []int{1, 6, 20}, 1},
		{binary(20), want(1<<10, 1, 0), []int{11}, 3},
	} {
		ids, e := stack.Make(c.box, c.w)
		if !slices.Equal(ids, c.ids) || e == api.OK != (c.ids != nil) || e != api.OK && e != api.ErrNone {
			t.Error("P4.4: Make:", i, ids, e)
		}
		if count, e := stack.Count(c.box, c.w); count != c.count || e != api.OK {
			t.Error("P4.4: Count:", i, count, e)
		}
	}
}

// TestMake holds all functions about good stacks against trying all stacks.
func TestMake(t *testing.T) {
	made := 0
	for _, x := range slices.Concat(trials(1500, 9), trials(60, 14)) {
		good := goodStacks(x.box, x.w)
		ids, ok := mustMake(t, x.box, x.w)
		if ok != (len(good) > 0) || ok && !slices.Equal(ids, good[0]) {
			t.Fatal("P4.4: Make:", x, ids, good)
		}
		if n := mustCount(t, x.box, x.w); n != len(good) {
			t.Fatal("P4.4: Count:", x, n, good)
		}
		checkNeeded(t, x, good)
		if ok {
			made++
		}
	}
	if made < 300 || made > 1400 {
		t.Error("too few stacks are tested, or too few that cannot be made:", made)
	}
}

func checkNeeded(t *testing.T, x trial, good [][]int) {
	t.Helper()
	var needed, spare []int
	for _, b := range x.box {
		has := func(ids []int) bool { return slices.Contains(ids, b.ID) }
		if !slices.ContainsFunc(good, func(ids []int) bool { return !has(ids) }) {
			needed = append(needed, b.ID)
		}
		if !slices.ContainsFunc(good, has) {
			spare = append(spare, b.ID)
		}
	}
	e := api.OK
	if len(good) == 0 {
		needed, spare, e = nil, nil, api.ErrNone
	}
	if l, f := stack.Needed(x.box, x.w); !slices.Equal(l, needed) || f != e {
		t.Fatal("P4.6: Needed:", x, l, f)
	}
	if l, f := stack.Spare(x.box, x.w); !slices.Equal(l, spare) || f != e {
		t.Fatal("P4.6: Spare:", x, l, f)
	}
}

func TestNeededAndSpareExamples(t *testing.T) {
	for i, c := range []struct {
		box           []api.Block
		w             api.Want
		needed, spare []int
		e             api.Errno
	}{
		{example(), want(3020, 0, 0), []int{3, 4}, []int{1, 2, 5}, api.OK},
		{example(), want(3030, 10, 0), []int{3}, []int{5}, api.OK}, // 3 4 and 1 2 3
		{example(), want(1, api.MaxLen, 0), nil, nil, api.OK},
		{example(), want(3021, 0, 0), nil, nil, api.ErrNone},
		{nil, want(5, 5, 0), nil, nil, api.ErrNone},
		{boxOf(5), want(5, 0, 0), []int{1}, nil, api.OK},
		{boxOf(5, 5), want(5, 0, 0), nil, nil, api.OK},
		{binary(20), want(1<<19+1, 0, 0), []int{1, 20}, []int{2, 3, 4, 5, 6, 7, 8, 9, 10, 11, 12, 13, 14, 15, 16, 17, 18, 19}, api.OK},
		{[]api.Block{block(4, 1), block(9, 2), block(api.MaxID, 4)}, want(5, 1, 0), []int{api.MaxID}, nil, api.OK},
	} {
		if l, e := stack.Needed(c.box, c.w); !slices.Equal(l, c.needed) || e != c.e {
			t.Error("P4.6: Needed:", i, l, e)
		}
		if l, e := stack.Spare(c.box, c.w); !slices.Equal(l, c.spare) || e != c.e {
			t.Error("P4.6: Spare:", i, l, e)
		}
	}
}

func TestNearestExamples(t *testing.T) {
	for i, c := range []struct {
		box  []api.Block
		w    api.Want
		ids  []int
		more int
		e    api.Errno
	}{
		{example(), want(3021, 0, 0), []int{3, 4}, -1, api.OK},
		{example(), want(3020, 0, 0), []int{3, 4}, 0, api.OK},
		{example(), want(3021, 50, 0), []int{3, 4}, -1, api.OK}, // Tol does not matter
		{example(), want(3021, api.MaxLen, 0), []int{3, 4}, -1, api.OK},
		{example(), want(3021, 0, 1), []int{3, 4}, 0, api.OK},
		{example(), want(1, 0, 0), []int{1}, 999, api.OK},
		{example(), want(api.MaxLen, 0, 0), []int{1, 2, 3, 4, 5}, 10030 - api.MaxLen, api.OK},
		{example(), want(1005, 0, 0), []int{1}, -5, api.OK},
		{boxOf(1010, 1000), want(1005, 0, 0), []int{1}, 5, api.OK},     // as near: the first one
		{boxOf(30, 30, 100), want(80, 0, 0), []int{3}, 20, api.OK},     // as near: the one with fewer blocks
		{boxOf(30, 30, 99), want(80, 0, 0), []int{3}, 19, api.OK},      // 60 is farther
		{boxOf(30, 30, 101), want(80, 0, 0), []int{1, 2}, -20, api.OK}, // 101 is farther
		{boxOf(30, 30, 100), want(80, 0, 1), []int{1, 2}, -19, api.OK}, // with a film 60 is nearer
		{nil, want(5, 0, 0), nil, 0, api.ErrNone},
		{nil, want(5, 5, 5), nil, 0, api.ErrNone},
		{boxOf(100), want(1, 0, 0), []int{1}, 99, api.OK}, // the empty set would be nearer
		{boxOf(100), want(1, 0, api.MaxFilm), []int{1}, 99, api.OK},
		{longest()[:1], want(api.MaxLen, 0, 0), []int{1}, mostBlock - api.MaxLen, api.OK},
		{longest(), want(1, 0, 0), []int{1}, mostBlock - 1, api.OK},
		{binary(20), want(1<<20, 0, 0), []int{1, 2, 3, 4, 5, 6, 7, 8, 9, 10, 11, 12, 13, 14, 15, 16, 17, 18, 19, 20}, -1, api.OK},
	} {
		if ids, more, e := stack.Nearest(c.box, c.w); !slices.Equal(ids, c.ids) || more != c.more || e != c.e {
			t.Error("P4.5: Nearest:", i, ids, more, e)
		}
		tol := max(c.more, -c.more)
		if n, e := stack.Widen(c.box, c.w); n != tol || e != c.e {
			t.Error("P4.10: Widen:", i, n, e)
		}
	}
}

func TestNearest(t *testing.T) {
	for _, x := range slices.Concat(trials(1500, 8), trials(60, 14)) {
		var best []int
		near, off := mostInt, 0
		for ids, length := range stacksOf(x.box) {
			more := length + (len(ids)-1)*x.w.Film - x.w.Len
			differs := max(more, -more)
			if differs < near || differs == near && compareStacks(ids, best) < 0 {
				best, near, off = ids, differs, more
			}
		}
		e := api.OK
		if len(x.box) == 0 {
			near, e = 0, api.ErrNone
		}
		if ids, more, f := stack.Nearest(x.box, x.w); !slices.Equal(ids, best) || more != off || f != e {
			t.Fatal("P4.5: Nearest:", x, ids, more, f)
		}
		if n, f := stack.Widen(x.box, x.w); n != near || f != e {
			t.Fatal("P4.10: Widen:", x, n, f)
		}
	}
}

func TestSeriesExamples(t *testing.T) {
	for i, c := range []struct {
		box         []api.Block
		w           api.Want
		step, count int
		made        int
		e           api.Errno
	}{
		{example(), want(1000, 0, 0), 10, 5, 3, api.OK},
		{example(), want(1000, 0, 0), 10, 3, 3, api.OK},
		{example(), want(1000, 0, 0), 10, 2, 2, api.OK},
		{example(), want(1000, 0, 0), 10, 1, 1, api.OK},
		{example(), want(990, 0, 0), 10, 5, 0, api.OK}, // what comes behind a gap does not count
		{example(), want(1000, 0, 0), 5, 5, 1, api.OK},
		{example(), want(1000, 5, 0), 5, 9, 6, api.OK},
		{example(), want(1000, 0, 0), 1000, 10, 3, api.OK},
		{example(), want(3000, 0, 1), 10, 5, 0, api.OK},
		{example(), want(3001, 0, 1), 10, 5, 3, api.OK},
		{nil, want(5, 5, 0), 1, 200, 0, api.OK},
		{binary(20), want(1, 0, 0), 5279, api.MaxSteps, 199, api.OK},
		{binary(20), want(1, 0, 0), 5000, api.MaxSteps, 200, api.OK},
		{binary(8), want(1, 0, 0), 1, 200, 200, api.OK},
		{binary(7), want(1, 0, 0), 1, 200, 127, api.OK},
		{longest(), want(mostBlock, 0, 0), mostBlock, 20, 20, api.OK},
		{example(), want(1, 0, 0), 0, 5, 0, api.ErrArg},
		{example(), want(1, 0, 0), -1, 5, 0, api.ErrArg},
		{example(), want(1, 0, 0), leastInt, 5, 0, api.ErrArg},
		{example(), want(1, 0, 0), api.MaxLen + 1, 1, 0, api.ErrArg},
		{example(), want(1, 0, 0), mostInt, 200, 0, api.ErrArg},
		{example(), want(1, 0, 0), 1, 0, 0, api.ErrArg},
		{example(), want(1, 0, 0), 1, -1, 0, api.ErrArg},
		{example(), want(1, 0, 0), 1, api.MaxSteps + 1, 0, api.ErrArg},
		{example(), want(1, 0, 0), 1, mostInt, 0, api.ErrArg},
		{example(), want(1, 0, 0), api.MaxLen, api.MaxSteps + 1, 0, api.ErrArg}, // the wrong number comes first
		{example(), want(1, 0, 0), api.MaxLen, 1, 0, api.OK},
		{example(), want(api.MaxLen, 0, 0), api.MaxLen, 1, 0, api.OK},
		{example(), want(1, 0, 0), api.MaxLen, 2, 0, api.ErrRange},
		{example(), want(1, 0, 0), api.MaxLen - 1, 2, 0, api.OK},
		{example(), want(1, 0, 0), api.MaxLen, api.MaxSteps, 0, api.ErrRange},
		{example(), want(api.MaxLen, 0, 0), 1, 2, 0, api.ErrRange},
		{example(), want(api.MaxLen-1, 0, 0), 1, 2, 0, api.OK},
		{example(), want(api.MaxLen-1, api.MaxLen, 0), 1, 2, 2, api.OK},
		{example(), want(1000, 0, 0), api.MaxLen / 10, 20, 0, api.ErrRange},
	} {
		if made, e := stack.Series(c.box, c.w, c.step, c.count); made != c.made || e != c.e {
			t.Error("P4.8: Series:", i, made, e)
		}
	}
}

func TestSeries(t *testing.T) {
	for i, x := range trials(800, 8) {
		step, count := 1+i%7, 1+i%12
		if x.w.Len+step*count > api.MaxLen {
			continue
		}
		made, w := 0, x.w
		for made < count && mustCount(t, x.box, w) > 0 {
			made++
			w.Len += step
		}
		if n, e := stack.Series(x.box, x.w, step, count); n != made || e != api.OK {
			t.Fatal("P4.8: Series:", x, step, count, n, e)
		}
	}
}

func TestLengthsExamples(t *testing.T) {
	for i, c := range []struct {
		box          []api.Block
		film, blocks int
		lengths      []int
		e            api.Errno
	}{
		{example(), 0, 2, []int{2010, 2020, 2030, 3000, 3010, 3020, 6000, 6010, 6020, 7000}, api.OK},
		{example(), 7, 1, []int{1000, 1010, 1020, 2000, 5000}, api.OK},
		{example(), 7, 5, []int{10058}, api.OK},
		{example(), 1, 4, []int{5033, 8033, 9013, 9023, 9033}, api.OK},
		{example(), 0, 6, nil, api.OK},
		{example(), 0, 20, nil, api.OK},
		{nil, 0, 1, nil, api.OK},
		{boxOf(5, 5, 5), 2, 2, []int{12}, api.OK},
		{boxOf(1, 2, 3, 4), 0, 2, []int{3, 4, 5, 6, 7}, api.OK},
		{longest(), api.MaxFilm, 20, []int{20*mostBlock + 19*api.MaxFilm}, api.OK},
		{longest(), api.MaxFilm, 10, []int{10*mostBlock + 9*api.MaxFilm}, api.OK},
		{example(), -1, 2, nil, api.ErrArg},
		{example(), leastInt, 2, nil, api.ErrArg},
		{example(), api.MaxFilm + 1, 2, nil, api.ErrArg},
		{example(), mostInt, 2, nil, api.ErrArg},
		{example(), 0, 0, nil, api.ErrArg},
		{example(), 0, -1, nil, api.ErrArg},
		{example(), 0, leastInt, nil, api.ErrArg},
		{example(), 0, 21, nil, api.ErrArg},
		{example(), 0, mostInt, nil, api.ErrArg},
		{nil, 0, 21, nil, api.ErrArg},
		{binary(20), -1, 10, nil, api.ErrArg}, // the wrong number comes first
		{binary(20), 0, 10, nil, api.ErrLimit},
		{binary(20), 0, 3, nil, api.ErrLimit},
		{binary(14), 0, 4, nil, api.ErrLimit}, // there are 1001
	} {
		if lengths, e := stack.Lengths(c.box, c.film, c.blocks); !slices.Equal(lengths, c.lengths) || e != c.e {
			t.Error("P4.9: Lengths:", i, lengths, e)
		}
	}
	// Eight blocks of this box have 1000 lengths, as many as may be.
	box := boxOf(1, 1, 1, 1, 5, 5, 5, 5, 25, 50, 100, 200, 400, 800, 1600, 3200)
	all := lengthsOf(box, 3, 8)
	if lengths, e := stack.Lengths(box, 3, 8); len(all) != 1000 || e != api.OK || !slices.Equal(lengths, all) {
		t.Error("P4.9: Lengths:", len(lengths), len(all), e)
	}
}

// lengthsOf returns all lengths of stacks with that many blocks, by trying all stacks.
func lengthsOf(box []api.Block, film, blocks int) []int {
	var lengths []int
	for ids, length := range stacksOf(box) {
		if len(ids) == blocks {
			lengths = append(lengths, length+(blocks-1)*film)
		}
	}
	slices.Sort(lengths)
	return slices.Compact(lengths)
}
