package plate_test

import (
	"reflect"
	"slices"
	"testing"

	"wringing/api"
	"wringing/plate"
)

// spare is a copy of a list that has more room behind its end, and what lies there.
func spare[T any](l []T, filler T) (list, behind []T) {
	whole := append(slices.Clone(l), slices.Repeat([]T{filler}, 4)...)
	return whole[:len(l)], whole[len(l):]
}

// scribble changes all lists of a result, up to their capacity.
func scribble(x any) {
	v := reflect.ValueOf(x)
	switch v.Kind() {
	case reflect.Slice:
		v = v.Slice(0, v.Cap())
		for i := range v.Len() {
			if v.Index(i).Kind() == reflect.Slice {
				scribble(v.Index(i).Interface())
			} else {
				v.Index(i).SetZero()
			}
		}
	case reflect.Array:
		for i := range v.Len() {
			scribble(v.Index(i).Interface())
		}
	case reflect.Struct:
		for i := range v.NumField() {
			scribble(v.Field(i).Interface())
		}
	}
}

// inputs are shops with lists for which most functions have a result: heights, or a walk; and plates, or the walks of a proof.
func inputs() []struct {
	s     api.Shop
	l     []int
	lists [][]int
} {
	return []struct {
		s     api.Shop
		l     []int
		lists [][]int
	}{
		{twisted(), []int{5, 7}, [][]int{{5, -5, 7, -7}, {-5, 5, -7, 7}, {5, -5, 7, -7}}},
		{twisted(), []int{0, 1}, zeros(twisted())},
		{straight(), nil, [][]int{{0, 1, 2}}},
		{crossed(), []int{0, 1, 2}, [][]int{{0, 1, 2}, {3, -1}}},
		{shop(2, 2, work(0, 1, 1)), []int{1, 2, 3, 4}, [][]int{{1, 2, 3, 4}, {-3, -1, -4, -2}}},
		{shop(1, 2), []int{9}, [][]int{{1}, {2}}},
	}
}

func cloneLists(lists [][]int) [][]int {
	var l [][]int
	for _, x := range lists {
		l = append(l, slices.Clone(x))
	}
	return l
}

func TestArgumentsStay(t *testing.T) {
	filler := work(9, 9, 9)
	for _, x := range inputs() {
		workings, behindWorkings := spare(x.s.Workings, filler)
		l, behindList := spare(x.l, 77)
		rows := make([][]int, len(x.lists))
		behindRows := make([][]int, len(x.lists))
		for i := range rows {
			rows[i], behindRows[i] = spare(x.lists[i], 77)
		}
		lists, behindLists := spare(rows, []int{77})
		given := shop(x.s.Side, x.s.Plates, workings...)
		for _, f := range calls(0, sign(4, true), l, lists, work(0, 1, 1)) {
			f.run(given)
			if !slices.Equal(workings, x.s.Workings) || !slices.Equal(l, x.l) || !sameLists(lists, x.lists) {
				t.Fatal("R6: an argument is modified:", f.name, x.s)
			}
			for i := range behindList {
				if behindList[i] != 77 || behindWorkings[i] != filler || !slices.Equal(behindLists[i], []int{77}) {
					t.Fatal("R6: what lies behind an argument is modified:", f.name, x.s)
				}
				for _, behind := range behindRows {
					if behind[i] != 77 {
						t.Fatal("R6: what lies behind an argument is modified:", f.name, x.s)
					}
				}
			}
		}
	}
}

func TestGapsLeavesItsArguments(t *testing.T) {
	a, behindA := spare([]int{1, 2, 3, 4}, 77)
	b, behindB := spare([]int{5, 6, 8, 7}, 77)
	gaps, _ := plate.Gaps(2, a, b, 3)
	again, _ := plate.Gaps(2, a, b, 3)
	scribble(gaps)
	if !slices.Equal(a, []int{1, 2, 3, 4}) || !slices.Equal(b, []int{5, 6, 8, 7}) || !slices.Equal(again, gapsOf(2, a, b, 3)) {
		t.Error("R6: Gaps:", a, b, again)
	}
	if !slices.Equal(behindA, slices.Repeat([]int{77}, 4)) || !slices.Equal(behindB, slices.Repeat([]int{77}, 4)) {
		t.Error("R6: Gaps modifies what lies behind:", behindA, behindB)
	}
}

func TestResultsAreNew(t *testing.T) {
	for _, x := range inputs() {
		workings, l, lists := slices.Clone(x.s.Workings), slices.Clone(x.l), cloneLists(x.lists)
		for _, f := range calls(0, sign(4, true), x.l, x.lists, work(0, 1, 1)) {
			first, e := f.run(x.s)
			again, g := f.run(x.s)
			third, h := f.run(x.s)
			if e != g || g != h || !reflect.DeepEqual(first, again) {
				t.Fatal("R7:", f.name, x.s, first, again)
			}
			scribble(first)
			if !reflect.DeepEqual(again, third) {
				t.Fatal("R6: results share memory:", f.name, x.s)
			}
			if !slices.Equal(x.s.Workings, workings) || !slices.Equal(x.l, l) || !sameLists(x.lists, lists) {
				t.Fatal("R6: a result shares memory with an argument:", f.name, x.s)
			}
		}
	}
}

// TestArgumentsAreNotKept changes a shop behind a call.
func TestArgumentsAreNotKept(t *testing.T) {
	s := twisted()
	more, _ := plate.With(s, work(0, 1, 1))
	clear(s.Workings)
	if !same(more, crossed()) {
		t.Error("R6: an argument is kept:", more)
	}
}

// TestListsAreApart writes into one list of a result, also behind its end: it must not reach another one.
func TestListsAreApart(t *testing.T) {
	for _, x := range inputs() {
		plates, _ := plate.Shape(x.s, 0, x.l)
		walks, _ := plate.Prove(x.s, 0)
		least, ways, _ := plate.Classes(x.s, 0)
		for _, lists := range [][][]int{plates, walks, {least, ways}} {
			want := cloneLists(lists)
			for i := range lists {
				scribble(lists[i])
				for j := range lists {
					if j > i && !slices.Equal(lists[j], want[j]) {
						t.Error("R6: lists of a result share memory:", x.s, want)
					}
				}
			}
		}
	}
}
