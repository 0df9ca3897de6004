package sharp_test

import (
	"reflect"
	"slices"
	"testing"

	"wringing/api"
	"wringing/compare"
	"wringing/sharp"
)

// spare is a copy of a list that has more room behind its end, and what lies there.
func spare[T any](l []T, filler T) (list, behind []T) {
	whole := append(slices.Clone(l), slices.Repeat([]T{filler}, 4)...)
	return whole[: len(l) : len(l)+4], whole[len(l):]
}

func watched[T any](l []T, filler T, checks *[]func() bool) []T {
	list, behind := spare(l, filler)
	before := slices.Clone(behind)
	*checks = append(*checks, func() bool { return reflect.DeepEqual(behind, before) })
	return list
}

// roomy is a copy of a book whose lists have more room behind their ends.
func roomy(b api.Book, checks *[]func() bool) api.Book {
	b = cloned(b)
	b.Gauges = watched(b.Gauges, gauge(77, 77, 7, 7), checks)
	b.Uses = watched(b.Uses, use(77, 77), checks)
	b.Loans = watched(b.Loans, loan(77, 77, 77, 77), checks)
	b.Looks = watched(b.Looks, node(77, 77), checks)
	b.Compares = watched(b.Compares, cold(77, 77, nil, nil, 77, 77), checks)
	for i := range b.Compares {
		b.Compares[i] = roomyCompare(b.Compares[i], checks)
	}
	return b
}

func roomyCompare(c api.Compare, checks *[]func() bool) api.Compare {
	c.A, c.B = watched(c.A, 77, checks), watched(c.B, 77, checks)
	return c
}

// roomyGiven is a deep copy of arguments whose lists have more room behind their ends.
func roomyGiven(g given, checks *[]func() bool) given {
	g.ids, g.x, g.y = watched(g.ids, 77, checks), watched(g.x, 77, checks), watched(g.y, 77, checks)
	g.other, g.cert.Book = roomy(g.other, checks), roomy(g.cert.Book, checks)
	g.cert.Chain = watched(g.cert.Chain, 77, checks)
	g.c = roomyCompare(g.c, checks)
	g.l = watched(g.l, cold(77, 77, nil, nil, 77, 77), checks)
	for i := range g.l {
		g.l[i] = roomyCompare(g.l[i], checks)
	}
	return g
}

// scribble changes all lists of a result, up to their capacity.
func scribble(x any) {
	v := reflect.ValueOf(x)
	switch v.Kind() {
	case reflect.Slice:
		v = v.Slice(0, v.Cap())
		for i := range v.Len() {
			scribble(v.Index(i).Interface())
			v.Index(i).SetZero()
		}
	case reflect.Struct:
		for i := range v.NumField() {
			scribble(v.Field(i).Interface())
		}
	}
}

// inputs are books with arguments, for which most functions have a result.
func inputs() []struct {
	b api.Book
	g given
} {
	new := exampleGiven()
	new.n, new.m, new.day, new.in, new.limits = node(2, 14), node(3, 15), 16, false, span(1000, 1001)
	new.ids, new.x, new.y = []int{1, 2, 3}, []int{1, 3}, []int{2}
	new.cert, _ = sharp.Certify(certBook(), node(3, 20), true)
	new.other = certBook()
	clash := exampleGiven()
	clash.cert, _ = sharp.Clash(contradiction())
	looked := changed(certBook(), func(b *api.Book) { b.Looks = []api.Node{node(2, 14), node(1, 3)} })
	return []struct {
		b api.Book
		g given
	}{{example(), exampleGiven()}, {certBook(), new}, {looked, new}, {contradiction(), clash}}
}

func allCalls() []call { return append(calls(), plainCalls()...) }

func TestArgumentsStay(t *testing.T) {
	for _, x := range inputs() {
		var checks []func() bool
		b, g := roomy(x.b, &checks), roomyGiven(x.g, &checks)
		before, given := cloned(b), roomyGiven(x.g, &checks)
		for _, c := range allCalls() {
			c.run(b, g)
			if !same(b, before) || !reflect.DeepEqual(g, given) {
				t.Fatal("R6: an argument is modified:", c.name, x)
			}
			if slices.ContainsFunc(checks, func(untouched func() bool) bool { return !untouched() }) {
				t.Fatal("R6: what lies behind an argument is modified:", c.name, x)
			}
		}
	}
}

func TestResultsAreNew(t *testing.T) {
	for _, x := range inputs() {
		var checks []func() bool
		b, g := cloned(x.b), roomyGiven(x.g, &checks)
		for _, c := range allCalls() {
			first, e := c.run(x.b, x.g)
			again, f := c.run(x.b, x.g)
			third, h := c.run(x.b, x.g)
			if e != f || f != h || !reflect.DeepEqual(first, again) {
				t.Fatal("R7:", c.name, x, first, again)
			}
			if first == nil {
				continue
			}
			scribble(first)
			if !reflect.DeepEqual(again, third) {
				t.Fatal("R6: results share memory:", c.name, x)
			}
			if !same(x.b, b) || !reflect.DeepEqual(withoutRoom(x.g), withoutRoom(g)) {
				t.Fatal("R6: a result shares memory with an argument:", c.name, x)
			}
			if fourth, _ := c.run(x.b, x.g); !reflect.DeepEqual(again, fourth) {
				t.Fatal("R6: a result is kept:", c.name, x)
			}
		}
	}
}

// withoutRoom is a copy of arguments that is the same for nil lists and empty ones.
func withoutRoom(g given) given {
	var checks []func() bool
	return roomyGiven(g, &checks)
}

// TestListsOfCertsAreApart writes into one list of a certificate, also behind its end: it must not reach another one.
func TestListsOfCertsAreApart(t *testing.T) {
	b := changed(certBook(), func(b *api.Book) { b.Compares[0].A, b.Compares[0].B = []int{1, 3}, []int{2, 3} })
	b.Gauges[2].Made = 1
	certs := func() []api.Cert {
		upper, _ := sharp.Certify(b, node(3, 12), true)
		lower, _ := sharp.Certify(b, node(2, 30), false)
		clash, _ := sharp.Clash(contradiction())
		return []api.Cert{upper, lower, clash}
	}
	for i, c := range certs() {
		if len(c.Book.Compares) == 0 || len(c.Chain) == 0 {
			t.Fatal("P6.7: Certify:", i, c)
		}
		for j := range c.Book.Compares {
			before := cloned(c.Book)
			scribble(c.Book.Compares[j].A)
			before.Compares[j].A = c.Book.Compares[j].A
			if !same(c.Book, before) {
				t.Error("R6: lists of a result share memory:", i, j)
			}
			before = cloned(c.Book)
			scribble(c.Book.Compares[j].B)
			before.Compares[j].B = c.Book.Compares[j].B
			if !same(c.Book, before) {
				t.Error("R6: lists of a result share memory:", i, j)
			}
		}
		before := cloned(c.Book)
		scribble(c.Chain)
		if !same(c.Book, before) {
			t.Error("R6: lists of a result share memory:", i)
		}
	}
	if e := compare.Check(b); e != api.OK {
		t.Error("P5.1: Check:", e)
	}
}
