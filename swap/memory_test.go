package swap_test

import (
	"reflect"
	"slices"
	"testing"

	"wringing/api"
	"wringing/swap"
)

// spare is a copy of a list that has more room behind its end, and what lies there.
func spare[T any](l []T, filler T) (list, behind []T) {
	whole := append(slices.Clone(l), slices.Repeat([]T{filler}, 4)...)
	return whole[: len(l) : len(l)+4], whole[len(l):]
}

func watched[T any](l []T, filler T, checks *[]func() bool) []T {
	list, behind := spare(l, filler)
	before := slices.Clone(behind)
	*checks = append(*checks, func() bool { return reflect.DeepEqual(behind, before) })
	return list
}

// roomy is a copy of a case whose lists have more room behind their ends.
func roomy(m api.Mixed, checks *[]func() bool) api.Mixed {
	m = cloned(m)
	b := &m.Book
	b.Gauges = watched(b.Gauges, gauge(77, 77, 7, 7), checks)
	b.Uses = watched(b.Uses, use(77, 77), checks)
	b.Loans = watched(b.Loans, loan(77, 77, 77, 77), checks)
	b.Looks = watched(b.Looks, node(77, 77), checks)
	b.Compares = watched(b.Compares, cold(77, 77, nil, nil, 77, 77), checks)
	for i, c := range b.Compares {
		b.Compares[i].A, b.Compares[i].B = watched(c.A, 77, checks), watched(c.B, 77, checks)
	}
	m.Mixes = watched(m.Mixes, mix(77, 77), checks)
	for i, x := range m.Mixes {
		m.Mixes[i].Labels = watched(x.Labels, 77, checks)
	}
	return m
}

// roomyGiven is a deep copy of arguments whose lists have more room behind their ends.
func roomyGiven(g given, checks *[]func() bool) given {
	g.way, g.chains = roomyLists(g.way, checks), roomyLists(g.chains, checks)
	g.ids, g.lengths = watched(g.ids, 77, checks), watched(g.lengths, 77, checks)
	g.x.Labels = watched(g.x.Labels, 77, checks)
	return g
}

func roomyLists(l [][]int, checks *[]func() bool) [][]int {
	l = watched(l, []int{77}, checks)
	for i := range l {
		l[i] = watched(l[i], 77, checks)
	}
	return l
}

// scribble changes all lists of a result, up to their capacity.
func scribble(x any) {
	v := reflect.ValueOf(x)
	switch v.Kind() {
	case reflect.Slice:
		v = v.Slice(0, v.Cap())
		for i := range v.Len() {
			scribble(v.Index(i).Interface())
			v.Index(i).SetZero()
		}
	case reflect.Struct:
		for i := range v.NumField() {
			scribble(v.Field(i).Interface())
		}
	}
}

// inputs are cases with arguments; each function has a result for one of them.
func inputs() []struct {
	m api.Mixed
	g given
} {
	clash := exampleGiven()
	clash.ids = []int{7, 8, 9}
	unexplained := example(eight(), nine())
	clash.chains, _ = swap.Prove(unexplained)
	many := exampleGiven()
	many.way, many.ids, many.x = [][]int{{2, 3, 1}, {3, 2}}, []int{1, 2, 3}, mix(8, 1, 2)
	mixed := shown(box(3, mix(3, 1, 2, 3), mix(5, 2, 3)), [3]int{1, 4, 111}, [3]int{2, 6, 119}, [3]int{3, 3, 120})
	mixed.Book.Uses, mixed.Book.Loans, mixed.Book.Looks = []api.Use{use(1, 4), use(2, 7)}, []api.Loan{loan(1, 7, 9, 0)}, []api.Node{node(2, 9)}
	mixed.Book.Compares[0].A, mixed.Book.Compares[0].B = []int{1, 3}, []int{3}
	four := box(2, mix(1, 1, 2), mix(2, 1, 2), mix(3, 1, 2), mix(4, 1, 2))
	return []struct {
		m api.Mixed
		g given
	}{{example(), exampleGiven()}, {unexplained, clash}, {mixed, many}, {four, exampleGiven()}}
}

func TestArgumentsStay(t *testing.T) {
	for i, x := range inputs() {
		var checks []func() bool
		m, g := roomy(x.m, &checks), roomyGiven(x.g, &checks)
		before, given := cloned(m), roomyGiven(x.g, &checks)
		for _, c := range calls() {
			c.run(m, g)
			if !same(m, before) || !reflect.DeepEqual(g, given) {
				t.Fatal("R6: an argument is modified:", c.name, i)
			}
			if slices.ContainsFunc(checks, func(untouched func() bool) bool { return !untouched() }) {
				t.Fatal("R6: what lies behind an argument is modified:", c.name, i)
			}
		}
		if e := swap.Check(m); e != api.OK || !same(m, before) {
			t.Fatal("R6: Check:", i, e)
		}
	}
}

func TestResultsAreNew(t *testing.T) {
	results := map[string]bool{}
	for i, x := range inputs() {
		var checks []func() bool
		m, g := cloned(x.m), roomyGiven(x.g, &checks)
		for _, c := range calls() {
			first, e := c.run(x.m, x.g)
			again, f := c.run(x.m, x.g)
			third, h := c.run(x.m, x.g)
			if e != f || f != h || !reflect.DeepEqual(first, again) {
				t.Fatal("R7:", c.name, i, first, again)
			}
			results[c.name] = results[c.name] || e == api.OK
			if first == nil {
				continue
			}
			scribble(first)
			if !reflect.DeepEqual(again, third) {
				t.Fatal("R6: results share memory:", c.name, i)
			}
			if !same(x.m, m) || !reflect.DeepEqual(withoutRoom(x.g), withoutRoom(g)) {
				t.Fatal("R6: a result shares memory with an argument:", c.name, i)
			}
			if fourth, _ := c.run(x.m, x.g); !reflect.DeepEqual(again, fourth) {
				t.Fatal("R6: a result is kept:", c.name, i)
			}
		}
	}
	for _, c := range calls() {
		if !results[c.name] {
			t.Error("R6: no result:", c.name)
		}
	}
}

// withoutRoom is a copy of arguments that is the same for nil lists and empty ones.
func withoutRoom(g given) given {
	var checks []func() bool
	return roomyGiven(g, &checks)
}

// listsOf are all lists of numbers in a result.
func listsOf(x any) [][]int {
	if l, ok := x.([]int); ok {
		return [][]int{l}
	}
	var all [][]int
	v := reflect.ValueOf(x)
	switch v.Kind() {
	case reflect.Slice:
		for i := range v.Len() {
			all = append(all, listsOf(v.Index(i).Interface())...)
		}
	case reflect.Struct:
		for i := range v.NumField() {
			all = append(all, listsOf(v.Field(i).Interface())...)
		}
	}
	return all
}

// TestListsAreApart writes into one list of a result, also behind its end: it must not reach another one.
func TestListsAreApart(t *testing.T) {
	for i, x := range inputs() {
		for _, c := range calls() {
			result, _ := c.run(x.m, x.g)
			if result == nil {
				continue
			}
			all := listsOf(result)
			var want [][]int
			for _, l := range all {
				want = append(want, slices.Clone(l))
			}
			for j := range all {
				scribble(all[j])
				for k := j + 1; k < len(all); k++ {
					if !slices.Equal(all[k], want[k]) {
						t.Fatal("R6: lists of a result share memory:", c.name, i)
					}
				}
			}
		}
		// The lists of ways that are next to each other.
		ways, _ := swap.Ways(x.m)
		again, _ := swap.Ways(x.m)
		for j := range ways {
			clear(ways[j][:cap(ways[j])])
			if !sameWays(ways[j+1:], again[j+1:]) {
				t.Fatal("R6: ways share memory:", i)
			}
		}
	}
}

// TestCaseOfTextIsNew changes a case that was read from a text.
func TestCaseOfTextIsNew(t *testing.T) {
	text := bookText + "mix 12 2 3\nmix 13 2 3\n"
	first, _ := swap.Parse(text)
	clear(first.Mixes[0].Labels[:cap(first.Mixes[0].Labels)])
	if !slices.Equal(first.Mixes[1].Labels, []int{2, 3}) {
		t.Error("R6: Parse:", first)
	}
	scribble(first)
	again, e := swap.Parse(text)
	if len(again.Mixes) != 2 || !slices.Equal(again.Mixes[0].Labels, []int{2, 3}) || e != api.OK {
		t.Error("R6: Parse:", again, e)
	}
}
