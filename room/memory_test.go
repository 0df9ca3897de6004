package room_test

import (
	"reflect"
	"slices"
	"testing"

	"wringing/api"
	"wringing/room"
)

// spare is a copy of a list that has more room behind its end, and what lies there.
func spare[T any](l []T, filler T) (list, behind []T) {
	whole := append(slices.Clone(l), slices.Repeat([]T{filler}, 4)...)
	return whole[: len(l) : len(l)+4], whole[len(l):]
}

func watched[T any](l []T, filler T, checks *[]func() bool) []T {
	list, behind := spare(l, filler)
	before := slices.Clone(behind)
	*checks = append(*checks, func() bool { return reflect.DeepEqual(behind, before) })
	return list
}

// roomyFact is a deep copy of a fact whose lists have more room behind their ends.
func roomyFact(f api.Fact, checks *[]func() bool) api.Fact {
	f.Compare = roomyCompare(f.Compare, checks)
	f.Mix.Labels = watched(f.Mix.Labels, 77, checks)
	return f
}

func roomyCompare(c api.Compare, checks *[]func() bool) api.Compare {
	c.A, c.B = watched(c.A, 77, checks), watched(c.B, 77, checks)
	return c
}

func roomyFacts(l []api.Fact, checks *[]func() bool) []api.Fact {
	l = watched(l, fact(7, 7, 7, use(7, 7)), checks)
	for i := range l {
		l[i] = roomyFact(l[i], checks)
	}
	return l
}

func roomyGiven(g given, checks *[]func() bool) given {
	g.l, g.other = roomyFacts(g.l, checks), roomyFacts(g.other, checks)
	g.plan = watched(g.plan, alone(7, 7, 7), checks)
	for i := range g.plan {
		g.plan[i] = roomyCompare(g.plan[i], checks)
	}
	return g
}

func isTouched(checks []func() bool) bool {
	return slices.ContainsFunc(checks, func(untouched func() bool) bool { return !untouched() })
}

// scribble changes all lists of a result, up to their capacity.
func scribble(x any) {
	v := reflect.ValueOf(x)
	switch v.Kind() {
	case reflect.Slice:
		v = v.Slice(0, v.Cap())
		for i := range v.Len() {
			scribble(v.Index(i).Interface())
			v.Index(i).SetZero()
		}
	case reflect.Struct:
		for i := range v.NumField() {
			scribble(v.Field(i).Interface())
		}
	}
}

// inputs are arguments; each function has a result for one of them.
func inputs() []given {
	clash := exampleGiven()
	clash.known = 12
	mixed := given{
		l:     slices.Concat(inBox(4, mix(2, 1, 2), mix(4, 2, 3), use(1, 3), use(2, 3), loan(3, 7, 8, 1), loan(4, 7, 8, 1)), facts(2, 1, 1, cold(6, []int{1, 4}, []int{2, 4}, 10, 1), alone(6, 3, 500))),
		other: inBox(4, gauge(4, 50, 0, 0), gauge(3, 50, 0, 0)), known: 5, label: 2, day: 6, limits: span(100, 105), n: name(1, 5),
		plan: []api.Compare{alone(6, 3, 0), cold(6, []int{1}, []int{2}, 0, 0)},
	}
	two := given{
		l: inBox(3), other: inBox(3), known: 1, label: 1, day: 5, limits: span(98, 100), n: name(1, 1),
		plan: []api.Compare{alone(5, 2, 0), cold(5, []int{1, 3}, []int{2, 3}, 0, 0)},
	}
	return []given{exampleGiven(), clash, mixed, two}
}

func TestArgumentsStay(t *testing.T) {
	for i, given := range inputs() {
		var checks, others []func() bool
		g, before := roomyGiven(given, &checks), roomyGiven(given, &others)
		for _, c := range calls() {
			c.run(g)
			if !reflect.DeepEqual(g, before) || isTouched(checks) {
				t.Fatal("R6: an argument is modified:", c.name, i)
			}
		}
		room.CheckFacts(g.l)
		room.Merge(g.l, g.other)
		for j, f := range g.l {
			room.CheckFact(f)
			room.Same(f, g.l[0])
			room.Encode(f)
			room.Record(j+1, f)
		}
		if !reflect.DeepEqual(g, before) || isTouched(checks) {
			t.Fatal("R6: an argument is modified:", i)
		}
	}
}

func TestResultsAreNew(t *testing.T) {
	results := map[string]bool{}
	all := append(calls(),
		call{"Merge", func(g given) (any, api.Errno) { return result(room.Merge(g.l, g.l)) }},
		call{"Record", func(g given) (any, api.Errno) { return result(room.Record(1, g.l[0])) }},
	)
	for i, given := range inputs() {
		var checks []func() bool
		g := roomyGiven(given, &checks)
		for _, c := range all {
			first, e := c.run(g)
			again, f := c.run(g)
			third, h := c.run(g)
			if e != f || f != h || !reflect.DeepEqual(first, again) {
				t.Fatal("R7:", c.name, i, first, again)
			}
			results[c.name] = results[c.name] || e == api.OK && !isNothing(first)
			scribble(first)
			fourth, _ := c.run(g)
			if !reflect.DeepEqual(again, third) || !reflect.DeepEqual(again, fourth) || !sameFacts(g.l, given.l) || isTouched(checks) {
				t.Fatal("R6: a result is not new memory:", c.name, i)
			}
		}
	}
	for _, c := range all {
		if !results[c.name] {
			t.Error("R6: no result:", c.name)
		}
	}
}

// listsOf are all lists of labels in a result.
func listsOf(v reflect.Value) [][]int {
	var all [][]int
	switch v.Kind() {
	case reflect.Slice:
		if l, ok := v.Interface().([]int); ok {
			return [][]int{l}
		}
		for i := range v.Len() {
			all = append(all, listsOf(v.Index(i))...)
		}
	case reflect.Struct:
		for i := range v.NumField() {
			all = append(all, listsOf(v.Field(i))...)
		}
	}
	return all
}

// TestListsAreApart writes into one list of a result, also behind its end: it must not reach another one.
func TestListsAreApart(t *testing.T) {
	l := inputs()[2].l
	r := opened(t, 1, l...)
	for i, result := range []func() any{
		func() any { m, _ := room.Gather(l, 5); return m },
		func() any { all, _ := room.Merge(l, l); return all },
		func() any { return r.Facts() },
		func() any { all, _ := r.Since(make([]int, api.MaxRooms)); return all },
	} {
		all := listsOf(reflect.ValueOf(result()))
		want := listsOf(reflect.ValueOf(result()))
		if len(all) < 5 {
			t.Fatal("R6: too few lists:", i)
		}
		for j := range all {
			clear(all[j][:cap(all[j])])
			for k := j + 1; k < len(all); k++ {
				if !slices.Equal(all[k], want[k]) {
					t.Fatal("R6: lists of a result share memory:", i)
				}
			}
		}
	}
}

// TestMemoryOfRooms changes what a room was given, and what it returned: what it holds must not change.
func TestMemoryOfRooms(t *testing.T) {
	l := append(example(), inputs()[2].l[4:]...)
	for i := range l[10:] {
		l[10+i].Room, l[10+i].No = 4, i+1
	}
	disk, behind := spare(diskOf(l[:8]...), "x")
	r, e := room.Open(2, disk)
	if e != api.OK {
		t.Fatal("P8.10: Open:", e)
	}
	var checks []func() bool
	rest := roomyFacts(l[8:], &checks)
	before := roomyFacts(l[8:], &checks)
	if n, e := r.Take(rest); n != len(rest) || e != api.OK || !reflect.DeepEqual(rest, before) || isTouched(checks) {
		t.Fatal("P8.12, R6: Take:", n, e)
	}
	f := roomyFact(fact(0, 0, 30, cold(6, []int{1, 2}, []int{2, 3}, 1, 1)), &checks)
	written, e := r.Write(f)
	if e != api.OK || written.No != 5 || isTouched(checks) {
		t.Fatal("P8.11, R6: Write:", written, e)
	}
	l = append(l, cloned([]api.Fact{written})...)
	if !slices.Equal(disk, diskOf(l[:8]...)) || slices.ContainsFunc(behind, func(s string) bool { return s != "x" }) {
		t.Fatal("R6: the disk that was opened is changed")
	}
	have, _ := spare(make([]int, api.MaxRooms), 7)
	since, _ := r.Since(have)
	scribble(f)
	if !same(written, l[len(l)-1]) {
		t.Fatal("R6: what Write returns shares memory with what it was given")
	}
	for _, x := range []any{disk, rest, written, have, since, r.Have(), r.Facts(), r.Disk()} {
		scribble(x)
		checkRoom(t, "R6:", r, 2, l)
	}
}
