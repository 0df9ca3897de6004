package stack_test

import (
	"math/rand"
	"slices"
	"testing"

	"wringing/api"
	"wringing/stack"
)

// TestFewest goes through all stacks ahead of that of Make: none of them is good.
func TestFewest(t *testing.T) {
	for _, x := range trials(600, 8) {
		made, ok := mustMake(t, x.box, x.w)
		if ok && !isGood(t, x.box, x.w, made) {
			t.Fatal("P4.12: Make:", x, made)
		}
		for ids := range stacksOf(x.box) {
			if (!ok || compareStacks(ids, made) < 0) && isGood(t, x.box, x.w, ids) {
				t.Fatal("P4.12: a stack comes ahead of that of Make:", x, ids, made)
			}
		}
		if ok != (mustCount(t, x.box, x.w) > 0) {
			t.Fatal("P4.12: Count and Make:", x, made)
		}
		d, e := stack.Deny(x.box, x.w)
		if ok != (e == api.ErrNone) || !ok && stack.CheckDeny(x.box, x.w, d) != api.OK {
			t.Fatal("P4.12: Deny and Make:", x, made, d, e)
		}
	}
}

func TestNearestAndWiden(t *testing.T) {
	for _, x := range trials(600, api.MaxBox) {
		if len(x.box) == 0 {
			continue
		}
		tol := mustWiden(t, x.box, x.w)
		ids, more, e := stack.Nearest(x.box, x.w)
		length, f := stack.Length(x.box, x.w, ids)
		if e != api.OK || f != api.OK || length-x.w.Len != more || max(more, -more) != tol {
			t.Fatal("P4.13: Nearest:", x, ids, more, tol)
		}
		w := x.w
		w.Tol = tol
		made, ok := mustMake(t, x.box, w)
		if !ok || !slices.Equal(made, ids) {
			t.Fatal("P4.13: with the tolerance of Widen:", x, tol, made)
		}
		w.Tol--
		if tol > 0 && mustCount(t, x.box, w) != 0 {
			t.Fatal("P4.13: with less than the tolerance of Widen:", x, tol)
		}
	}
}

func TestBlockMore(t *testing.T) {
	r := rand.New(rand.NewSource(17))
	for _, x := range trials(600, 12) {
		if len(x.box) == 0 {
			continue
		}
		less := without(x.box, x.box[r.Intn(len(x.box))].ID)
		if mustCount(t, less, x.w) > mustCount(t, x.box, x.w) {
			t.Fatal("P4.14: Count of a block more:", x, less)
		}
		if len(less) > 0 && mustWiden(t, less, x.w) < mustWiden(t, x.box, x.w) {
			t.Fatal("P4.14: Widen of a block more:", x, less)
		}
		if ids, ok := mustMake(t, less, x.w); ok && !isGood(t, x.box, x.w, ids) {
			t.Fatal("P4.14: Make of a block more:", x, less, ids)
		}
	}
}

func TestWithoutNeededOrSpare(t *testing.T) {
	for _, x := range trials(600, 12) {
		made, ok := mustMake(t, x.box, x.w)
		if !ok {
			continue
		}
		needed, e := stack.Needed(x.box, x.w)
		spare, f := stack.Spare(x.box, x.w)
		if e != api.OK || f != api.OK {
			t.Fatal("P4.6: Needed, Spare:", x, e, f)
		}
		for _, id := range needed {
			if !slices.Contains(made, id) || mustCount(t, without(x.box, id), x.w) != 0 {
				t.Fatal("P4.14: a block of Needed:", x, id)
			}
		}
		rest := without(x.box, spare...)
		again, ok := mustMake(t, rest, x.w)
		if !ok || !slices.Equal(again, made) || mustCount(t, rest, x.w) != mustCount(t, x.box, x.w) {
			t.Fatal("P4.14: without the blocks of Spare:", x, spare, made, again)
		}
	}
}

func TestFilms(t *testing.T) {
	r := rand.New(rand.NewSource(18))
	for _, x := range trials(150, 7) {
		thick := x.w
		thick.Film = r.Intn(api.MaxFilm + 1)
		for ids := range stacksOf(x.box) {
			a, e := stack.Length(x.box, x.w, ids)
			b, f := stack.Length(x.box, thick, ids)
			if e != api.OK || f != api.OK || b-a != (len(ids)-1)*(thick.Film-x.w.Film) {
				t.Fatal("P4.16: Length with two films:", x, thick, ids, a, b)
			}
		}
	}
}

func TestLengths(t *testing.T) {
	for _, x := range slices.Concat(trials(200, 8), trials(20, 13)) {
		for blocks := 1; blocks <= len(x.box)+1; blocks++ {
			all := lengthsOf(x.box, x.w.Film, blocks)
			lengths, e := stack.Lengths(x.box, x.w.Film, blocks)
			if len(all) > 1000 != (e == api.ErrLimit) || e == api.OK && !slices.Equal(lengths, all) || e != api.OK && len(lengths) != 0 {
				t.Fatal("P4.16: Lengths:", x, blocks, lengths, e)
			}
		}
	}
}

// TestOtherHalf counts the sets of a length, and those that are left of the whole box.
func TestOtherHalf(t *testing.T) {
	for _, x := range trials(600, 12) {
		whole := 0
		for _, b := range x.box {
			whole += b.Len
		}
		w := want(x.w.Len, x.w.Tol, 0)
		rest := want(whole-w.Len, w.Tol, 0)
		if rest.Len < 1 {
			continue
		}
		// Count leaves out the empty set, which has no length.
		sets := func(w api.Want) int {
			n := mustCount(t, x.box, w)
			if w.Len <= w.Tol {
				n++
			}
			return n
		}
		if sets(w) != sets(rest) {
			t.Fatal("P4.18: the rest of the box:", x.box, w, rest, sets(w), sets(rest))
		}
	}
}

func TestGreaterTolerance(t *testing.T) {
	r := rand.New(rand.NewSource(19))
	for _, x := range trials(600, 9) {
		wide := x.w
		wide.Tol = min(api.MaxLen, wide.Tol+r.Intn(2+wide.Len))
		good := goodStacks(x.box, x.w)
		for _, ids := range good {
			if !isGood(t, x.box, wide, ids) {
				t.Fatal("P4.18: a greater tolerance:", x, wide, ids)
			}
		}
		if mustCount(t, x.box, wide) < len(good) {
			t.Fatal("P4.18: Count with a greater tolerance:", x, wide)
		}
		if len(good) == 0 {
			continue
		}
		for name, f := range map[string]func([]api.Block, api.Want) ([]int, api.Errno){"Needed": stack.Needed, "Spare": stack.Spare} {
			few, e := f(x.box, x.w)
			more, g := f(x.box, wide)
			if e != api.OK || g != api.OK || slices.ContainsFunc(more, func(id int) bool { return !slices.Contains(few, id) }) {
				t.Fatal("P4.18:", name, "with a greater tolerance:", x, wide, few, more)
			}
		}
	}
}

func TestMultiples(t *testing.T) {
	for i, x := range trials(600, 12) {
		times := 2 + i%9
		w := want(x.w.Len*times, x.w.Tol*times, x.w.Film*times)
		box := slices.Clone(x.box)
		for i := range box {
			box[i].Len *= times
		}
		if e, _ := stack.Check(box); e != api.OK || stack.CheckWant(w) != api.OK {
			continue
		}
		made, ok := mustMake(t, x.box, x.w)
		again, still := mustMake(t, box, w)
		if ok != still || !slices.Equal(made, again) || mustCount(t, box, w) != mustCount(t, x.box, x.w) {
			t.Fatal("P4.18: multiples:", x, times, made, again)
		}
		needed, _ := stack.Needed(x.box, x.w)
		spare, _ := stack.Spare(x.box, x.w)
		moreNeeded, _ := stack.Needed(box, w)
		moreSpare, _ := stack.Spare(box, w)
		if !slices.Equal(needed, moreNeeded) || !slices.Equal(spare, moreSpare) {
			t.Fatal("P4.18: Needed and Spare of multiples:", x, times)
		}
		if len(box) > 0 && mustWiden(t, box, w) != times*mustWiden(t, x.box, x.w) {
			t.Fatal("P4.18: Widen of multiples:", x, times)
		}
	}
}
