package room

import (
	"slices"

	"wringing/api"
	"wringing/swap"
)

// Told returns the gauges that can bear a label on a day, and their lengths, as it is known at a time.
func Told(l []api.Fact, known, label, day int) ([]api.Could, api.Errno) {
	m, e := Gather(l, known)
	if e != api.OK {
		return nil, e
	}
	return swap.Coulds(m, label, day)
}

// Rests reports whether something else would be told without a fact.
func Rests(l []api.Fact, known, label, day int, n api.Name) (bool, api.Errno) {
	if e := checkKnown(l, known); e != api.OK {
		return false, e
	}
	if !slices.ContainsFunc(l, func(f api.Fact) bool { return nameOf(f) == n && f.Known <= known }) {
		return false, api.ErrNone
	}
	rest := slices.DeleteFunc(slices.Clone(l), func(f api.Fact) bool { return nameOf(f) == n })
	with, e := Told(l, known, label, day)
	without, g := Told(rest, known, label, day)
	return e != g || !slices.Equal(with, without), api.OK
}

// Blame returns the facts of comparisons that contradict each other.
func Blame(l []api.Fact, known int) ([]api.Name, api.Errno) {
	m, e := Gather(l, known)
	if e != api.OK {
		return nil, e
	}
	ids, e := swap.Core(m)
	if e != api.OK {
		return nil, e
	}
	var names []api.Name
	for _, id := range ids {
		names = append(names, named(id))
	}
	return names, api.OK
}

// Quarrel returns the labels about whose lengths on a day two rooms tell things that exclude each other.
func Quarrel(a, b []api.Fact, known, day int) ([]int, api.Errno) {
	for _, l := range [][]api.Fact{a, b} {
		if e, _ := CheckFacts(l); e != api.OK {
			return nil, e
		}
	}
	if !isTime(known) || !isDay(day) {
		return nil, api.ErrArg
	}
	m, n := caseOf(a, known), caseOf(b, known)
	var labels []int
	for _, g := range m.Book.Gauges {
		// A list whose case has an error tells nothing of any label.
		s, e := swap.Coulds(m, g.ID, day)
		t, f := swap.Coulds(n, g.ID, day)
		if e == api.OK && f == api.OK && !meet(s, t) {
			labels = append(labels, g.ID)
		}
	}
	return labels, api.OK
}

// meet reports whether some length is told by both lists.
func meet(a, b []api.Could) bool {
	return slices.ContainsFunc(a, func(s api.Could) bool {
		return slices.ContainsFunc(b, func(t api.Could) bool { return s.Len.Lo <= t.Len.Hi && t.Len.Lo <= s.Len.Hi })
	})
}
