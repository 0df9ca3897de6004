package chain_test

import (
	"reflect"
	"slices"
	"testing"

	"wringing/api"
	"wringing/chain"
)

// spare is a copy of a list that has more room behind its end, and what lies there.
func spare[T any](l []T, filler T) (list, behind []T) {
	whole := append(slices.Clone(l), slices.Repeat([]T{filler}, 4)...)
	return whole[:len(l)], whole[len(l):]
}

func TestArgumentsStay(t *testing.T) {
	for _, s := range []api.System{example(), clashing(), system(1), system(3, example().Links...)} {
		links, behindLinks := spare(s.Links, link(9, 9, 9))
		l, behindList := spare([]int{0, 1, 0, 0}, 77)
		further, behindFurther := spare([]api.Link{link(0, s.Nodes-1, 7)}, link(8, 8, 8))
		given := api.System{Nodes: s.Nodes, Links: links}
		for _, f := range calls(0, s.Nodes-1, l, further) {
			f.run(given)
			if !slices.Equal(links, s.Links) || !slices.Equal(l, []int{0, 1, 0, 0}) || further[0] != link(0, s.Nodes-1, 7) {
				t.Fatal("R6: an argument is modified:", f.name, s)
			}
			if !slices.Equal(behindLinks, slices.Repeat([]api.Link{link(9, 9, 9)}, 4)) || !slices.Equal(behindList, []int{77, 77, 77, 77}) || !slices.Equal(behindFurther, slices.Repeat([]api.Link{link(8, 8, 8)}, 4)) {
				t.Fatal("R6: what lies behind an argument is modified:", f.name, s)
			}
		}
	}
}

// scribble changes all lists of a result, up to their capacity.
func scribble(x any) {
	v := reflect.ValueOf(x)
	switch v.Kind() {
	case reflect.Slice:
		v = v.Slice(0, v.Cap())
		for i := range v.Len() {
			if v.Index(i).Kind() == reflect.Slice {
				scribble(v.Index(i).Interface())
			} else {
				v.Index(i).SetZero()
			}
		}
	case reflect.Struct:
		for i := range v.NumField() {
			scribble(v.Field(i).Interface())
		}
	}
}

func TestResultsAreNew(t *testing.T) {
	for _, s := range []api.System{example(), clashing(), system(3, example().Links...), cycle(5, 0)} {
		whole := slices.Clone(s.Links)
		l, further := []int{0, 1, 0, 0}[:min(s.Nodes, 4)], []api.Link{link(0, 1, 7)}
		for _, f := range calls(0, 2, l, further) {
			first, e := f.run(s)
			again, g := f.run(s)
			third, h := f.run(s)
			if e != g || g != h || !reflect.DeepEqual(first, again) {
				t.Fatal("R7:", f.name, s, first, again)
			}
			scribble(first)
			if !reflect.DeepEqual(again, third) {
				t.Fatal("R6: results share memory:", f.name, s)
			}
			if !slices.Equal(s.Links, whole) || !slices.Equal(l, []int{0, 1, 0, 0}[:len(l)]) || further[0] != link(0, 1, 7) {
				t.Fatal("R6: a result shares memory with an argument:", f.name, s)
			}
		}
	}
}

// TestArgumentsAreNotKept changes arguments behind a call.
func TestArgumentsAreNotKept(t *testing.T) {
	s, further := example(), []api.Link{link(1, 0, -6)}
	more, _ := chain.With(s, further)
	less, _ := chain.Without(s, nil)
	copied, _ := chain.With(s, nil)
	clear(s.Links)
	clear(further)
	if !same(more, clashing()) || !same(less, example()) || !same(copied, example()) {
		t.Error("R6: an argument is kept:", more, less, copied)
	}
}

// TestRowsAreApart appends to one list of a result: it must not reach the next one.
func TestRowsAreApart(t *testing.T) {
	d := bounds(t, example())
	want := bounds(t, example())
	for i := range d {
		d[i] = append(d[i], 1234)[:len(d[i])]
	}
	if !sameTable(d, want) {
		t.Error("R6: lists of a result share memory:", d)
	}
}
