package stack_test

import (
	"math/rand"
	"reflect"
	"slices"
	"testing"

	"wringing/api"
	"wringing/stack"
)

const (
	leastInt  = -1 << 63
	mostInt   = 1<<63 - 1
	mostBlock = api.MaxLen / api.MaxBox // the length of the longest valid block
)

func block(id, length int) api.Block { return api.Block{ID: id, Len: length} }

func want(length, tol, film int) api.Want { return api.Want{Len: length, Tol: tol, Film: film} }

// boxOf returns a box of blocks of some lengths, with the IDs 1, 2, 3 and so on.
func boxOf(lengths ...int) []api.Block {
	var box []api.Block
	for i, length := range lengths {
		box = append(box, block(i+1, length))
	}
	return box
}

// example is the box of the chapter.
func example() []api.Block { return boxOf(1000, 1010, 1020, 2000, 5000) }

// longest is a box of as many blocks as there may be, all as long as they may be.
func longest() []api.Block { return boxOf(slices.Repeat([]int{mostBlock}, api.MaxBox)...) }

// binary is a box with which each length from 1 to 2^n - 1 is made in one way.
func binary(n int) []api.Block {
	var lengths []int
	for i := range n {
		lengths = append(lengths, 1<<i)
	}
	return boxOf(lengths...)
}

type badBox struct {
	box []api.Block
	e   api.Errno
	at  int
}

// badBoxes are boxes that are not valid, with what Check returns for them.
func badBoxes() []badBox {
	good := block(7, 100)
	return []badBox{
		{longer(), api.ErrLimit, -1},
		{slices.Repeat([]api.Block{{}}, api.MaxBox+1), api.ErrLimit, -1},
		{slices.Repeat([]api.Block{good}, 5000), api.ErrLimit, -1},
		{[]api.Block{{}}, api.ErrArg, 0},
		{[]api.Block{block(0, 100)}, api.ErrArg, 0},
		{[]api.Block{block(-1, 100)}, api.ErrArg, 0},
		{[]api.Block{block(leastInt, 100)}, api.ErrArg, 0},
		{[]api.Block{good, block(api.MaxID+1, 100)}, api.ErrArg, 1},
		{[]api.Block{good, block(mostInt, 100)}, api.ErrArg, 1},
		{[]api.Block{good, block(8, 0)}, api.ErrArg, 1},
		{[]api.Block{good, block(8, -1)}, api.ErrArg, 1},
		{[]api.Block{good, block(8, leastInt)}, api.ErrArg, 1},
		{[]api.Block{good, block(8, mostBlock+1)}, api.ErrArg, 1},
		{[]api.Block{good, block(8, mostInt)}, api.ErrArg, 1},
		{[]api.Block{good, good}, api.ErrTwice, 1},
		{[]api.Block{good, block(6, 100)}, api.ErrTwice, 1},
		{[]api.Block{good, block(9, 1), block(8, 1)}, api.ErrTwice, 2},
		{[]api.Block{good, block(7, 0)}, api.ErrArg, 1},
		{[]api.Block{good, block(7, 1), {}}, api.ErrTwice, 1},
		{[]api.Block{good, {}, block(7, 1)}, api.ErrArg, 1},
		{append(longest()[:api.MaxBox-1], block(api.MaxBox, mostBlock+1)), api.ErrArg, api.MaxBox - 1},
		{append(longest()[:api.MaxBox-1], block(1, 1)), api.ErrTwice, api.MaxBox - 1},
	}
}

// longer is a box with a block too many.
func longer() []api.Block { return boxOf(slices.Repeat([]int{5}, api.MaxBox+1)...) }

func badWants() []api.Want {
	return []api.Want{
		{}, want(0, 0, 0), want(-1, 0, 0), want(leastInt, 0, 0), want(api.MaxLen+1, 0, 0), want(mostInt, 0, 0),
		want(1, -1, 0), want(1, leastInt, 0), want(1, api.MaxLen+1, 0), want(1, mostInt, 0),
		want(1, 0, -1), want(1, 0, leastInt), want(1, 0, api.MaxFilm+1), want(1, 0, mostInt),
		want(leastInt, leastInt, leastInt), want(mostInt, mostInt, mostInt),
	}
}

// given are the arguments of a call that are neither the box nor the want.
type given struct {
	ids                       []int
	other                     api.Want
	step, count, film, blocks int
	d                         api.Denial
}

// call is a function of the package with a box.
type call struct {
	name  string
	wants bool // whether the function has a want
	run   func(box []api.Block, w api.Want) (any, api.Errno)
}

// calls are all functions with a box but Check.
func calls(g given) []call {
	return []call{
		{"Length", true, func(box []api.Block, w api.Want) (any, api.Errno) { return result(stack.Length(box, w, g.ids)) }},
		{"Good", true, func(box []api.Block, w api.Want) (any, api.Errno) { return result(stack.Good(box, w, g.ids)) }},
		{"Make", true, func(box []api.Block, w api.Want) (any, api.Errno) { return result(stack.Make(box, w)) }},
		{"Count", true, func(box []api.Block, w api.Want) (any, api.Errno) { return result(stack.Count(box, w)) }},
		{"Nearest", true, func(box []api.Block, w api.Want) (any, api.Errno) {
			ids, more, e := stack.Nearest(box, w)
			return struct {
				IDs  []int
				More int
			}{ids, more}, e
		}},
		{"Needed", true, func(box []api.Block, w api.Want) (any, api.Errno) { return result(stack.Needed(box, w)) }},
		{"Spare", true, func(box []api.Block, w api.Want) (any, api.Errno) { return result(stack.Spare(box, w)) }},
		{"Two", true, func(box []api.Block, w api.Want) (any, api.Errno) {
			one, other, e := stack.Two(box, w, g.other)
			return [2][]int{one, other}, e
		}},
		{"Two, turned round", true, func(box []api.Block, w api.Want) (any, api.Errno) {
			one, other, e := stack.Two(box, g.other, w)
			return [2][]int{one, other}, e
		}},
		{"Series", true, func(box []api.Block, w api.Want) (any, api.Errno) {
			return result(stack.Series(box, w, g.step, g.count))
		}},
		{"Lengths", false, func(box []api.Block, w api.Want) (any, api.Errno) {
			return result(stack.Lengths(box, g.film, g.blocks))
		}},
		{"Deny", true, func(box []api.Block, w api.Want) (any, api.Errno) { return result(stack.Deny(box, w)) }},
		{"CheckDeny", true, func(box []api.Block, w api.Want) (any, api.Errno) { return nil, stack.CheckDeny(box, w, g.d) }},
		{"Widen", true, func(box []api.Block, w api.Want) (any, api.Errno) { return result(stack.Widen(box, w)) }},
		{"Print", false, func(box []api.Block, w api.Want) (any, api.Errno) { return result(stack.Print(box)) }},
	}
}

func result[T any](x T, e api.Errno) (any, api.Errno) { return x, e }

// isNothing reports whether a result is a zero value, where an empty list is one, too.
func isNothing(x any) bool { return x == nil || isZero(reflect.ValueOf(x)) }

func isZero(v reflect.Value) bool {
	switch v.Kind() {
	case reflect.Slice:
		return v.Len() == 0
	case reflect.Array:
		for i := range v.Len() {
			if !isZero(v.Index(i)) {
				return false
			}
		}
		return true
	case reflect.Struct:
		for i := range v.NumField() {
			if !isZero(v.Field(i)) {
				return false
			}
		}
		return true
	}
	return v.IsZero()
}

// stacksOf goes through all stacks of a box, with no film their lengths.
func stacksOf(box []api.Block) func(yield func(ids []int, length int) bool) {
	return func(yield func(ids []int, length int) bool) {
		for number := 1; number < 1<<len(box); number++ {
			var ids []int
			length := 0
			for i, b := range box {
				if number&(1<<i) != 0 {
					ids = append(ids, b.ID)
					length += b.Len
				}
			}
			if !yield(ids, length) {
				return
			}
		}
	}
}

// compareStacks is the order of stacks, by the words of the chapter.
func compareStacks(a, b []int) int {
	if len(a) != len(b) {
		return len(a) - len(b)
	}
	return slices.Compare(a, b)
}

// goodStacks returns all good stacks in their order, found by trying.
func goodStacks(box []api.Block, w api.Want) [][]int {
	var good [][]int
	for ids, length := range stacksOf(box) {
		length += (len(ids) - 1) * w.Film
		if length >= w.Len-w.Tol && length <= w.Len+w.Tol {
			good = append(good, ids)
		}
	}
	slices.SortFunc(good, compareStacks)
	return good
}

// trial is a box with a want.
type trial struct {
	box []api.Block
	w   api.Want
}

// randomBox returns a box of that many blocks, with lengths up to a most one; its IDs leave gaps.
func randomBox(r *rand.Rand, blocks, most int) []api.Block {
	var box []api.Block
	id := 0
	for range blocks {
		id += 1 + r.Intn(3)
		box = append(box, block(id, 1+r.Intn(most)))
	}
	return box
}

// trials are always the same boxes of up to that many blocks, with wants of which some have good stacks.
func trials(count, blocks int) []trial {
	r := rand.New(rand.NewSource(4))
	l := []trial{
		{example(), want(3020, 0, 0)}, {example(), want(3021, 0, 0)}, {example(), want(3030, 10, 0)}, {example(), want(1, api.MaxLen, 0)},
		{nil, want(1, 0, 0)}, {nil, want(5, 5, 0)}, {nil, want(5, 9, 3)},
		{boxOf(5), want(5, 0, 7)}, {boxOf(5), want(6, 0, 7)}, {boxOf(5), want(1, 3, 0)}, {boxOf(5, 5), want(1, 1, 0)}, {boxOf(5, 5, 10), want(10, 0, 0)},
		{longest()[:4], want(api.MaxLen, api.MaxLen, api.MaxFilm)}, {longest()[:4], want(4*mostBlock, 0, 0)},
	}
	for range count {
		most := []int{1, 3, 12, 100, mostBlock}[r.Intn(5)]
		box := randomBox(r, r.Intn(blocks+1), most)
		w := want(0, r.Intn(3), 0)
		if r.Intn(2) == 0 {
			w.Film = r.Intn(min(most, api.MaxFilm) + 2)
		}
		if r.Intn(4) == 0 {
			w.Tol = r.Intn(most + 1)
		}
		for _, b := range box {
			if r.Intn(3) == 0 {
				w.Len += b.Len + w.Film
			}
		}
		w.Len = min(max(1, w.Len-w.Film+r.Intn(7)-3), api.MaxLen)
		l = append(l, trial{box, w})
	}
	return l
}

// mustMake returns what Make does, and fails if it returns an error other than ErrNone.
func mustMake(t *testing.T, box []api.Block, w api.Want) ([]int, bool) {
	t.Helper()
	ids, e := stack.Make(box, w)
	if e != api.OK && e != api.ErrNone {
		t.Fatal("P4.4: Make:", box, w, e)
	}
	return ids, e == api.OK
}

func mustCount(t *testing.T, box []api.Block, w api.Want) int {
	t.Helper()
	n, e := stack.Count(box, w)
	if e != api.OK {
		t.Fatal("P4.4: Count:", box, w, e)
	}
	return n
}

func mustWiden(t *testing.T, box []api.Block, w api.Want) int {
	t.Helper()
	tol, e := stack.Widen(box, w)
	if e != api.OK {
		t.Fatal("P4.10: Widen:", box, w, e)
	}
	return tol
}

func isGood(t *testing.T, box []api.Block, w api.Want, ids []int) bool {
	t.Helper()
	good, e := stack.Good(box, w, ids)
	if e != api.OK {
		t.Fatal("P4.3: Good:", box, w, ids, e)
	}
	return good
}

// without returns a box without some blocks.
func without(box []api.Block, ids ...int) []api.Block {
	return slices.DeleteFunc(slices.Clone(box), func(b api.Block) bool { return slices.Contains(ids, b.ID) })
}
