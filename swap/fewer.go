package swap

import (
	"iter"
	"slices"

	"wringing/api"
	"wringing/chain"
	"wringing/compare"
)

// account is the translation of a book by a way, its system, and what the links of the system come from.
type account struct {
	book    api.Book
	system  api.System
	sources []api.Source
}

// Explained reports whether some comparisons alone are explained.
func Explained(m api.Mixed, ids []int) (bool, api.Errno) {
	if e := Check(m); e != api.OK {
		return false, e
	}
	some := idsOf(m.Book, func(c api.Compare) bool { return slices.Contains(ids, c.ID) })
	return isExplained(accountsOf(m), some), api.OK
}

// Withdrawn reports whether the comparisons of a label alone are not explained.
func Withdrawn(m api.Mixed, label int) (bool, api.Errno) {
	if e := Check(m); e != api.OK {
		return false, e
	}
	if _, ok := gaugeOf(m.Book, label); !ok {
		return false, api.ErrNone
	}
	some := idsOf(m.Book, func(c api.Compare) bool {
		x, y, _ := compare.Cancel(c.A, c.B)
		return slices.Contains(x, label) || slices.Contains(y, label)
	})
	return !isExplained(accountsOf(m), some), api.OK
}

// Core returns comparisons that are not explained, and are so without any one of them.
func Core(m api.Mixed) ([]int, api.Errno) {
	if e := Check(m); e != api.OK {
		return nil, e
	}
	accounts := slices.Collect(accountsOf(m))
	core := idsOf(m.Book, func(api.Compare) bool { return true })
	if isExplained(slices.Values(accounts), core) {
		return nil, api.ErrNone
	}
	for _, id := range slices.Backward(core) {
		rest := slices.DeleteFunc(slices.Clone(core), func(other int) bool { return other == id })
		if !isExplained(slices.Values(accounts), rest) {
			core = rest
		}
	}
	return core, api.OK
}

// Shortest returns the fewest comparisons, out of some, that are not explained.
func Shortest(m api.Mixed, ids []int) ([]int, api.Errno) {
	if e := checkIDs(m, ids); e != api.OK {
		return nil, e
	}
	m.Book.Compares = slices.DeleteFunc(slices.Clone(m.Book.Compares), func(c api.Compare) bool { return !slices.Contains(ids, c.ID) })
	accounts := slices.Collect(accountsOf(m))
search:
	for list := range lists(ids) {
		for _, a := range accounts {
			if a.allows(list) {
				continue search
			}
		}
		return list, api.OK
	}
	return nil, api.ErrNone
}

// checkIDs returns the error of a case, or of IDs out of which a shortest list is asked for.
func checkIDs(m api.Mixed, ids []int) api.Errno {
	if e := Check(m); e != api.OK {
		return e
	}
	if len(ids) > api.MaxShort {
		return api.ErrLimit
	}
	known := idsOf(m.Book, func(api.Compare) bool { return true })
	if slices.ContainsFunc(ids, func(id int) bool { return !slices.Contains(known, id) }) {
		return api.ErrNone
	}
	if !increases(ids) {
		return api.ErrTwice
	}
	return api.OK
}

// idsOf returns the IDs of some comparisons of a book, in their order.
func idsOf(b api.Book, some func(c api.Compare) bool) []int {
	var ids []int
	for _, c := range b.Compares {
		if some(c) {
			ids = append(ids, c.ID)
		}
	}
	return ids
}

func accountOf(m api.Mixed, way [][]int) account {
	a := account{book: translate(m, way)}
	a.system, a.sources, _ = compare.System(a.book)
	return a
}

// accountsOf yields the account of each way.
func accountsOf(m api.Mixed) iter.Seq[account] {
	return func(yield func(account) bool) {
		for _, way := range waysOf(m.Mixes) {
			if !yield(accountOf(m, way)) {
				return
			}
		}
	}
}

// isExplained reports whether one of some accounts allows some comparisons alone.
func isExplained(accounts iter.Seq[account], ids []int) bool {
	_, ok := first(accounts, func(a account) bool { return a.allows(ids) })
	return ok
}

// allows reports whether there is a history if no other comparisons than some had been made. The nodes of the others stay, but without their links nodes forbid nothing.
func (a account) allows(ids []int) bool {
	s := api.System{Nodes: a.system.Nodes}
	for i, l := range a.system.Links {
		from := a.sources[i]
		if from.Kind != api.SoCompare || slices.Contains(ids, a.book.Compares[from.Which].ID) {
			s.Links = append(s.Links, l)
		}
	}
	ok, _ := chain.Consistent(s)
	return ok
}

// lists yields all lists that are parts of a list, the shorter ones first.
func lists(l []int) iter.Seq[[]int] {
	return func(yield func([]int) bool) {
		for count := range len(l) + 1 {
			for list := range choices(l, count) {
				if !yield(list) {
					return
				}
			}
		}
	}
}

// choices yields the parts of a list that have so many elements, in the order of lists if the elements increase.
func choices(l []int, count int) iter.Seq[[]int] {
	return func(yield func([]int) bool) {
		if count == 0 {
			yield(nil)
			return
		}
		for i, x := range l {
			for rest := range choices(l[i+1:], count-1) {
				if !yield(slices.Concat([]int{x}, rest)) {
					return
				}
			}
		}
	}
}
