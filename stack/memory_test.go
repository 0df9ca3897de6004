package stack_test

import (
	"reflect"
	"slices"
	"testing"

	"wringing/api"
	"wringing/stack"
)

// spare is a copy of a list that has more room behind its end, and what lies there.
func spare[T any](l []T, filler T) (list, behind []T) {
	whole := append(slices.Clone(l), slices.Repeat([]T{filler}, 4)...)
	return whole[:len(l)], whole[len(l):]
}

// scribble changes all lists of a result, up to their capacity.
func scribble(x any) {
	v := reflect.ValueOf(x)
	switch v.Kind() {
	case reflect.Slice:
		v = v.Slice(0, v.Cap())
		for i := range v.Len() {
			v.Index(i).SetZero()
		}
	case reflect.Array:
		for i := range v.Len() {
			scribble(v.Index(i).Interface())
		}
	case reflect.Struct:
		for i := range v.NumField() {
			scribble(v.Field(i).Interface())
		}
	}
}

// inputs are boxes and wants, with further arguments, for which each function has a result with one of them.
func inputs() []struct {
	trial
	given
} {
	var l []struct {
		trial
		given
	}
	twelve := boxOf(1, 2, 4, 8, 16, 32, 64, 128, 256, 512, 1024, 2048)
	for _, x := range []trial{
		{example(), want(3020, 0, 0)}, {example(), want(3021, 0, 0)}, {example(), want(2010, 0, 0)}, {example(), want(3030, 10, 0)},
		{nil, want(5, 5, 0)}, {twelve, want(3000, 3, 0)}, {twelve, want(5000, 3, 0)},
	} {
		g := given{ids: []int{1, 2}, other: want(7000, 0, 0), step: 10, count: 5, blocks: 2}
		g.d, _ = stack.Deny(x.box, x.w)
		l = append(l, struct {
			trial
			given
		}{x, g})
	}
	return l
}

func TestArgumentsStay(t *testing.T) {
	filler := block(77, 77)
	for _, x := range inputs() {
		box, behindBox := spare(x.box, filler)
		g := x.given
		var behind [4][]int
		g.ids, behind[0] = spare(x.ids, 77)
		g.d.First, behind[1] = spare(x.d.First, 77)
		g.d.Rest, behind[2] = spare(x.d.Rest, 77)
		g.d.Short, behind[3] = spare(x.d.Short, 77)
		for _, f := range calls(g) {
			f.run(box, x.w)
			if !slices.Equal(box, x.box) || !slices.Equal(g.ids, x.ids) || !slices.Equal(g.d.First, x.d.First) || !slices.Equal(g.d.Rest, x.d.Rest) || !slices.Equal(g.d.Short, x.d.Short) {
				t.Fatal("R6: an argument is modified:", f.name, x)
			}
			for i := range behindBox {
				for _, l := range behind {
					if behindBox[i] != filler || l[i] != 77 {
						t.Fatal("R6: what lies behind an argument is modified:", f.name, x)
					}
				}
			}
		}
		if e, _ := stack.Check(box); e != api.OK || !slices.Equal(box, x.box) {
			t.Fatal("R6: Check:", e, x)
		}
	}
}

func TestResultsAreNew(t *testing.T) {
	for _, x := range inputs() {
		box, g := slices.Clone(x.box), x.given
		g.ids, g.d = slices.Clone(x.ids), cloneDenial(x.d)
		for _, f := range calls(x.given) {
			first, e := f.run(x.box, x.w)
			again, g := f.run(x.box, x.w)
			third, h := f.run(x.box, x.w)
			if e != g || g != h || !reflect.DeepEqual(first, again) {
				t.Fatal("R7:", f.name, x, first, again)
			}
			scribble(first)
			if !reflect.DeepEqual(again, third) {
				t.Fatal("R6: results share memory:", f.name, x)
			}
			fourth, _ := f.run(x.box, x.w)
			if !reflect.DeepEqual(again, fourth) {
				t.Fatal("R6: a result is kept:", f.name, x)
			}
		}
		if !slices.Equal(x.box, box) || !slices.Equal(x.ids, g.ids) || !slices.Equal(x.d.First, g.d.First) || !slices.Equal(x.d.Rest, g.d.Rest) || !slices.Equal(x.d.Short, g.d.Short) {
			t.Fatal("R6: a result shares memory with an argument:", x)
		}
	}
}

// TestListsAreApart writes into one list of a result, also behind its end: it must not reach another one.
func TestListsAreApart(t *testing.T) {
	for _, x := range inputs() {
		one, other, _ := stack.Two(x.box, x.w, x.other)
		d, _ := stack.Deny(x.box, x.w)
		for _, lists := range [][][]int{{one, other}, {d.First, d.Rest, d.Short}} {
			for i := range lists {
				later := slices.Clone(lists[i+1:])
				for j := range later {
					later[j] = slices.Clone(later[j])
				}
				scribble(lists[i])
				if !reflect.DeepEqual(later, append([][]int{}, lists[i+1:]...)) {
					t.Error("R6: lists of a result share memory:", x)
				}
			}
		}
	}
}

// TestBoxOfTextIsNew changes a box that was read from a text.
func TestBoxOfTextIsNew(t *testing.T) {
	first, _ := stack.Parse(exampleText)
	scribble(first)
	again, e := stack.Parse(exampleText)
	if !slices.Equal(again, example()) || e != api.OK {
		t.Error("R6: Parse:", again, e)
	}
}
