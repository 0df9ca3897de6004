package compare_test

import (
	"reflect"
	"slices"
	"testing"

	"wringing/api"
	"wringing/compare"
)

// spare is a copy of a list that has more room behind its end, and what lies there.
func spare[T any](l []T, filler T) (list, behind []T) {
	whole := append(slices.Clone(l), slices.Repeat([]T{filler}, 4)...)
	return whole[: len(l) : len(l)+4], whole[len(l):]
}

// roomy is a copy of a book whose lists have more room behind their ends, and what tells whether that was touched.
func roomy(b api.Book) (api.Book, func() bool) {
	var checks []func() bool
	b = cloned(b)
	b.Gauges = watched(b.Gauges, gauge(77, 77, 7, 7), &checks)
	b.Uses = watched(b.Uses, use(77, 77), &checks)
	b.Loans = watched(b.Loans, loan(77, 77, 77, 77), &checks)
	b.Looks = watched(b.Looks, node(77, 77), &checks)
	b.Compares = watched(b.Compares, cold(77, 77, nil, nil, 77, 77), &checks)
	for i, c := range b.Compares {
		b.Compares[i].A = watched(c.A, 77, &checks)
		b.Compares[i].B = watched(c.B, 77, &checks)
	}
	return b, func() bool {
		return !slices.ContainsFunc(checks, func(untouched func() bool) bool { return !untouched() })
	}
}

func watched[T any](l []T, filler T, checks *[]func() bool) []T {
	list, behind := spare(l, filler)
	before := slices.Clone(behind)
	*checks = append(*checks, func() bool { return reflect.DeepEqual(behind, before) })
	return list
}

// scribble changes all lists of a result, up to their capacity.
func scribble(x any) {
	v := reflect.ValueOf(x)
	switch v.Kind() {
	case reflect.Slice:
		v = v.Slice(0, v.Cap())
		for i := range v.Len() {
			scribble(v.Index(i).Interface())
			v.Index(i).SetZero()
		}
	case reflect.Struct:
		for i := range v.NumField() {
			scribble(v.Field(i).Interface())
		}
	}
}

// inputs are books with arguments for which all functions have a result.
func inputs() []struct {
	b api.Book
	g given
} {
	many := changed(example(), func(b *api.Book) {
		b.Gauges = append(b.Gauges, gauge(3, 50, 0, 5), gauge(5, 60, 0, 5))
		b.Uses = append(b.Uses, use(3, 4), use(1, 5))
		b.Compares = append(b.Compares, cold(8, 3, []int{3, 5}, []int{5}, 50, 9))
		b.Looks = []api.Node{node(5, 9), node(1, 2)}
	})
	g := exampleGiven()
	g.which, g.ids, g.n = 1, []int{8, 9}, node(5, 9)
	g.c = cold(10, 6, []int{1, 3, 5}, []int{3, 5}, 0, 0)
	g.lengths = []int{1000, 1000, 1000, 990, 990, 50, 50, 60, 60}
	return []struct {
		b api.Book
		g given
	}{{example(), exampleGiven()}, {many, g}}
}

func TestArgumentsStay(t *testing.T) {
	for _, x := range inputs() {
		b, untouched := roomy(x.b)
		g := x.g
		var checks []func() bool
		for _, l := range []*[]int{&g.lengths, &g.x, &g.y, &g.ids, &g.c.A, &g.c.B} {
			*l = watched(*l, 77, &checks)
		}
		for _, c := range calls() {
			if _, e := c.run(b, g); e != api.OK {
				t.Fatal("P5.1:", c.name, x, e)
			}
			if !same(b, x.b) || !reflect.DeepEqual(g, x.g) {
				t.Fatal("R6: an argument is modified:", c.name, x)
			}
			if !untouched() || slices.ContainsFunc(checks, func(untouched func() bool) bool { return !untouched() }) {
				t.Fatal("R6: what lies behind an argument is modified:", c.name, x)
			}
		}
		if _, _, e := compare.Cancel(g.x, g.ids); e != api.OK || !reflect.DeepEqual(g, x.g) {
			t.Fatal("R6: Cancel:", x, e)
		}
		if e := compare.Check(b); e != api.OK || !same(b, x.b) || !untouched() {
			t.Fatal("R6: Check:", x, e)
		}
	}
}

func TestResultsAreNew(t *testing.T) {
	for _, x := range inputs() {
		b, g := cloned(x.b), x.g
		for _, l := range []*[]int{&g.lengths, &g.x, &g.y, &g.ids, &g.c.A, &g.c.B} {
			*l = slices.Clone(*l)
		}
		for _, c := range calls() {
			first, e := c.run(x.b, x.g)
			again, f := c.run(x.b, x.g)
			third, h := c.run(x.b, x.g)
			if e != f || f != h || !reflect.DeepEqual(first, again) {
				t.Fatal("R7:", c.name, x, first, again)
			}
			scribble(first)
			if !reflect.DeepEqual(again, third) {
				t.Fatal("R6: results share memory:", c.name, x)
			}
			if !same(x.b, b) || !reflect.DeepEqual(g, x.g) {
				t.Fatal("R6: a result shares memory with an argument:", c.name, x)
			}
			if fourth, _ := c.run(x.b, x.g); !reflect.DeepEqual(again, fourth) {
				t.Fatal("R6: a result is kept:", c.name, x)
			}
		}
	}
}

// TestListsAreApart writes into one list of a result, also behind its end: it must not reach another one.
func TestListsAreApart(t *testing.T) {
	x := inputs()[1]
	for _, c := range calls() {
		first, _ := c.run(x.b, x.g)
		book, ok := first.(api.Book)
		if !ok {
			continue
		}
		for i := range book.Compares {
			before := cloned(book)
			scribble(book.Compares[i].A)
			before.Compares[i].A = book.Compares[i].A
			if !same(book, before) {
				t.Error("R6: lists of a result share memory:", c.name, i)
			}
			before = cloned(book)
			scribble(book.Compares[i].B)
			before.Compares[i].B = book.Compares[i].B
			if !same(book, before) {
				t.Error("R6: lists of a result share memory:", c.name, i)
			}
		}
	}
	one, other := []int{1, 2, 5}, []int{2, 3, 4, 7}
	a, b, _ := compare.Cancel(one, other)
	scribble(a)
	if !slices.Equal(b, []int{3, 4, 7}) || !slices.Equal(one, []int{1, 2, 5}) {
		t.Error("R6: Cancel:", a, b, one)
	}
	scribble(b)
	if !slices.Equal(other, []int{2, 3, 4, 7}) {
		t.Error("R6: Cancel:", other)
	}
}

// TestBookOfTextIsNew changes a book that was read from a text.
func TestBookOfTextIsNew(t *testing.T) {
	first, _ := compare.Parse(exampleText)
	scribble(first)
	again, e := compare.Parse(exampleText)
	if !same(again, example()) || e != api.OK {
		t.Error("R6: Parse:", again, e)
	}
}
