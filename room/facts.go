package room

import (
	"cmp"
	"slices"

	"wringing/api"
)

// CheckFact returns the error of a fact.
func CheckFact(f api.Fact) api.Errno {
	k, ok := kinds()[f.Kind]
	if !ok || !isName(nameOf(f)) || !isTime(f.Known) || !Same(f, k.bare(f)) || !k.valid(f) {
		return api.ErrArg
	}
	return api.OK
}

// CheckFacts returns the first error of a list of facts, and its index.
func CheckFacts(l []api.Fact) (api.Errno, int) {
	if len(l) > api.MaxFacts {
		return api.ErrLimit, -1
	}
	before := map[api.Name]api.Fact{}
	for i, f := range l {
		if e := CheckFact(f); e != api.OK {
			return e, i
		}
		if first, twice := before[nameOf(f)]; twice && !Same(first, f) {
			return api.ErrClash, i
		}
		before[nameOf(f)] = f
	}
	return api.OK, -1
}

// Same reports whether two facts are equal.
func Same(a, b api.Fact) bool {
	return a.Room == b.Room && a.No == b.No && a.Known == b.Known && a.Kind == b.Kind &&
		a.Film == b.Film && a.Gauge == b.Gauge && a.Use == b.Use && a.Loan == b.Loan && a.Target == b.Target &&
		sameCompare(a.Compare, b.Compare) &&
		a.Mix.Day == b.Mix.Day && slices.Equal(a.Mix.Labels, b.Mix.Labels)
}

// Merge returns the facts of both lists, each name once.
func Merge(a, b []api.Fact) ([]api.Fact, api.Errno) {
	both := slices.Concat(a, b)
	for _, l := range [][]api.Fact{a, b, both} {
		if e, _ := CheckFacts(l); e != api.OK {
			return nil, e
		}
	}
	return copies(ordered(both)), api.OK
}

func sameCompare(a, b api.Compare) bool {
	return a.ID == b.ID && a.Day == b.Day && a.Diff == b.Diff && a.Error == b.Error && a.Heat == b.Heat &&
		slices.Equal(a.A, b.A) && slices.Equal(a.B, b.B)
}

func nameOf(f api.Fact) api.Name { return api.Name{Room: f.Room, No: f.No} }

func isName(n api.Name) bool {
	return isWithin(n.Room, 1, api.MaxRooms) && isWithin(n.No, 1, api.MaxNo)
}

func isTime(known int) bool { return isWithin(known, 0, api.MaxKnown) }

func isDay(day int) bool { return isWithin(day, 0, api.MaxDay) }

func isWithin(n, least, most int) bool { return n >= least && n <= most }

// isSpan reports whether a span is valid and lies from one number to another one.
func isSpan(s api.Span, least, most int) bool { return least <= s.Lo && s.Lo <= s.Hi && s.Hi <= most }

func compareNames(a, b api.Name) int {
	return cmp.Or(cmp.Compare(a.Room, b.Room), cmp.Compare(a.No, b.No))
}

func byName(a, b api.Fact) int { return compareNames(nameOf(a), nameOf(b)) }

// ordered returns facts in the order of their names, each name once.
func ordered(l []api.Fact) []api.Fact {
	l = slices.SortedFunc(slices.Values(l), byName)
	return slices.CompactFunc(l, func(a, b api.Fact) bool { return nameOf(a) == nameOf(b) })
}

// copied returns a fact that shares no list with the one it is given.
func copied(f api.Fact) api.Fact {
	f.Compare.A = slices.Clone(f.Compare.A)
	f.Compare.B = slices.Clone(f.Compare.B)
	f.Mix.Labels = slices.Clone(f.Mix.Labels)
	return f
}

// copies returns facts that share no list with those it is given.
func copies(l []api.Fact) []api.Fact {
	var facts []api.Fact
	for _, f := range l {
		facts = append(facts, copied(f))
	}
	return facts
}
