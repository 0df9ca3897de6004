package stack_test

import (
	"math/rand"
	"slices"
	"testing"

	"wringing/api"
	"wringing/stack"
)

// accepted reports whether a denial is accepted, by the words of the chapter.
func accepted(box []api.Block, w api.Want, d api.Denial) bool {
	n := min(len(box), api.MaxHalf)
	if !isTable(box[:n], w, d.First) || !isTable(box[n:], w, d.Rest) || len(d.Short) != len(d.First) {
		return false
	}
	for i, k := range d.Short {
		if k < 0 || k > len(d.Rest) {
			return false
		}
		weight := func(j int) int { return weightOf(box[:n], w, d.First[i]) + weightOf(box[n:], w, d.Rest[j]) }
		if k > 0 && weight(k-1) >= w.Len-w.Tol+w.Film {
			return false
		}
		if k < len(d.Rest) && d.First[i] == 0 && d.Rest[k] == 0 && weight(k) >= w.Len-w.Tol+w.Film {
			k++
		}
		if k < len(d.Rest) && weight(k) <= w.Len+w.Tol+w.Film {
			return false
		}
	}
	return true
}

// isTable reports whether a list has all sets of a part, and in the order of their weights.
func isTable(part []api.Block, w api.Want, sets []int) bool {
	for i := range sets {
		if i > 0 && weightOf(part, w, sets[i]) < weightOf(part, w, sets[i-1]) {
			return false
		}
	}
	sorted := slices.Sorted(slices.Values(sets))
	for number, s := range sorted {
		if s != number {
			return false
		}
	}
	return len(sets) == 1<<len(part)
}

func weightOf(part []api.Block, w api.Want, number int) int {
	weight := 0
	for k, b := range part {
		if number>>k&1 == 1 {
			weight += b.Len + w.Film
		}
	}
	return weight
}

func cloneDenial(d api.Denial) api.Denial {
	return api.Denial{First: slices.Clone(d.First), Rest: slices.Clone(d.Rest), Short: slices.Clone(d.Short)}
}

func TestDenyExamples(t *testing.T) {
	for i, c := range []struct {
		box []api.Block
		w   api.Want
		e   api.Errno
	}{
		{example(), want(3021, 0, 0), api.OK},
		{example(), want(3020, 0, 0), api.ErrNone},
		{example(), want(3021, 1, 0), api.ErrNone},
		{example(), want(3021, 0, 1), api.ErrNone},
		{example(), want(1, 998, 0), api.OK},
		{example(), want(500, 499, 0), api.OK}, // the empty set would fit without film, but for a unit
		{example(), want(500, 500, 0), api.ErrNone},
		{example(), want(499, 499, 0), api.OK}, // the empty set fits
		{example(), want(499, 500, 0), api.OK},
		{example(), want(100, 200, 100), api.OK},
		{example(), want(100, 199, 100), api.OK},
		{example(), want(api.MaxLen, 0, api.MaxFilm), api.OK},
		{example(), want(1, api.MaxLen, 0), api.ErrNone},
		{nil, want(1, 0, 0), api.OK},
		{nil, want(5, 5, 0), api.OK},
		{nil, want(5, 9, 4), api.OK},
		{nil, want(api.MaxLen, api.MaxLen, api.MaxFilm), api.OK},
		{boxOf(10), want(5, 4, 0), api.OK},
		{boxOf(10), want(4, 5, 0), api.OK},
		{boxOf(10), want(5, 5, 0), api.ErrNone},
		{boxOf(2, 2, 4, 4), want(7, 0, 0), api.OK},
		{binary(10), want(1024, 0, 0), api.OK},
		{binary(11), want(2048, 0, 0), api.OK},
		{binary(20), want(1<<20, 0, 0), api.OK},
		{binary(20), want(1<<20, 1, 0), api.ErrNone},
		{longest(), want(api.MaxLen, 3, 0), api.OK},
		{longest(), want(api.MaxLen, 4, 0), api.ErrNone},
		{longest(), want(1, mostBlock-2, api.MaxFilm), api.OK},
		{longest(), want(1, mostBlock-1, api.MaxFilm), api.ErrNone},
	} {
		d, e := stack.Deny(c.box, c.w)
		if e != c.e || e != api.OK && !isNothing(d) {
			t.Error("P4.11: Deny:", i, e)
		}
		if e == api.OK && !accepted(c.box, c.w, d) {
			t.Error("P4.11: Deny returns no denial:", i, d)
		}
		if f := stack.CheckDeny(c.box, c.w, d); f != api.OK && e == api.OK || f != api.ErrProof && e != api.OK {
			t.Error("P4.11: CheckDeny:", i, f)
		}
	}
}

func TestCheckDenyExamples(t *testing.T) {
	two := boxOf(10, 20) // its sets have the weights 0, 10, 20, 30
	first, rest := []int{0, 1, 2, 3}, []int{0}
	same := boxOf(10, 10)
	// The part behind ten blocks has two blocks, and the first part is much too long.
	twelve := boxOf(900, 900, 900, 900, 900, 900, 900, 900, 900, 900, 10, 20)
	d, e := stack.Deny(twelve, want(15, 0, 0))
	if e != api.OK {
		t.Fatal("P4.11: Deny:", e)
	}
	behind := func(rest []int, short int) api.Denial {
		x := cloneDenial(d)
		x.Rest = rest
		x.Short[0] = short
		return x
	}
	for i, c := range []struct {
		box []api.Block
		w   api.Want
		d   api.Denial
		e   api.Errno
	}{
		{two, want(15, 0, 0), api.Denial{First: first, Rest: rest, Short: []int{1, 1, 0, 0}}, api.OK},
		{two, want(15, 4, 0), api.Denial{First: first, Rest: rest, Short: []int{1, 1, 0, 0}}, api.OK},
		{two, want(15, 5, 0), api.Denial{First: first, Rest: rest, Short: []int{1, 1, 0, 0}}, api.ErrProof},
		{two, want(14, 4, 0), api.Denial{First: first, Rest: rest, Short: []int{1, 1, 0, 0}}, api.ErrProof},
		{two, want(16, 4, 0), api.Denial{First: first, Rest: rest, Short: []int{1, 1, 0, 0}}, api.ErrProof},
		{two, want(15, 0, 0), api.Denial{First: first, Rest: rest, Short: []int{0, 1, 0, 0}}, api.ErrProof},
		{two, want(15, 0, 0), api.Denial{First: first, Rest: rest, Short: []int{1, 0, 0, 0}}, api.ErrProof},
		{two, want(15, 0, 0), api.Denial{First: first, Rest: rest, Short: []int{1, 1, 1, 0}}, api.ErrProof},
		{two, want(15, 0, 0), api.Denial{First: first, Rest: rest, Short: []int{1, 1, 0, 1}}, api.ErrProof},
		{two, want(15, 0, 0), api.Denial{First: first, Rest: rest, Short: []int{1, 1, 0, -1}}, api.ErrProof},
		{two, want(15, 0, 0), api.Denial{First: first, Rest: rest, Short: []int{2, 1, 0, 0}}, api.ErrProof},
		{two, want(15, 0, 0), api.Denial{First: first, Rest: rest, Short: []int{mostInt, 1, 0, 0}}, api.ErrProof},
		{two, want(15, 0, 0), api.Denial{First: first, Rest: rest, Short: []int{1, 1, 0, leastInt}}, api.ErrProof},
		{two, want(15, 0, 0), api.Denial{First: first, Rest: rest, Short: []int{1, 1, 0}}, api.ErrProof},
		{two, want(15, 0, 0), api.Denial{First: first, Rest: rest, Short: []int{1, 1, 0, 0, 0}}, api.ErrProof},
		{two, want(15, 0, 0), api.Denial{First: first, Rest: rest}, api.ErrProof},
		{two, want(15, 0, 0), api.Denial{}, api.ErrProof},
		{two, want(15, 0, 0), api.Denial{First: first[:3], Rest: rest, Short: []int{1, 1, 0}}, api.ErrProof},
		{two, want(15, 0, 0), api.Denial{First: []int{0, 1, 2, 3, 4}, Rest: rest, Short: []int{1, 1, 0, 0, 0}}, api.ErrProof},
		{two, want(15, 0, 0), api.Denial{First: []int{0, 1, 2, 4}, Rest: rest, Short: []int{1, 1, 0, 0}}, api.ErrProof},
		{two, want(15, 0, 0), api.Denial{First: []int{0, 1, 2, 2}, Rest: rest, Short: []int{1, 1, 0, 0}}, api.ErrProof},
		{two, want(15, 0, 0), api.Denial{First: []int{0, 1, 1, 3}, Rest: rest, Short: []int{1, 1, 1, 0}}, api.ErrProof},
		{two, want(15, 0, 0), api.Denial{First: []int{-1, 1, 2, 3}, Rest: rest, Short: []int{1, 1, 0, 0}}, api.ErrProof},
		{two, want(15, 0, 0), api.Denial{First: []int{0, 1, 2, mostInt}, Rest: rest, Short: []int{1, 1, 0, 0}}, api.ErrProof},
		{two, want(15, 0, 0), api.Denial{First: []int{leastInt, 1, 2, 3}, Rest: rest, Short: []int{1, 1, 0, 0}}, api.ErrProof},
		{two, want(15, 0, 0), api.Denial{First: []int{0, 2, 1, 3}, Rest: rest, Short: []int{1, 0, 1, 0}}, api.ErrProof},
		{two, want(15, 0, 0), api.Denial{First: []int{1, 0, 2, 3}, Rest: rest, Short: []int{1, 1, 0, 0}}, api.ErrProof},
		{two, want(15, 0, 0), api.Denial{First: first, Rest: nil, Short: []int{0, 0, 0, 0}}, api.ErrProof},
		{two, want(15, 0, 0), api.Denial{First: first, Rest: []int{1}, Short: []int{1, 1, 0, 0}}, api.ErrProof},
		{two, want(15, 0, 0), api.Denial{First: first, Rest: []int{0, 0}, Short: []int{2, 2, 0, 0}}, api.ErrProof},
		{two, want(15, 0, 0), api.Denial{First: first, Rest: []int{0, 1}, Short: []int{1, 1, 0, 0}}, api.ErrProof},
		// The empty set is left out where it would be good: with the tolerance 5, and also without it, it is too short only if it is.
		{two, want(5, 4, 0), api.Denial{First: first, Rest: rest, Short: []int{1, 0, 0, 0}}, api.OK},
		{two, want(5, 4, 0), api.Denial{First: first, Rest: rest, Short: []int{0, 0, 0, 0}}, api.ErrProof},
		{two, want(4, 4, 0), api.Denial{First: first, Rest: rest, Short: []int{0, 0, 0, 0}}, api.OK},
		{two, want(4, 4, 0), api.Denial{First: first, Rest: rest, Short: []int{1, 0, 0, 0}}, api.ErrProof},
		{two, want(4, 5, 0), api.Denial{First: first, Rest: rest, Short: []int{0, 0, 0, 0}}, api.OK},
		{two, want(4, 6, 0), api.Denial{First: first, Rest: rest, Short: []int{0, 0, 0, 0}}, api.ErrProof},
		{two, want(4, 4, 1), api.Denial{First: first, Rest: rest, Short: []int{1, 0, 0, 0}}, api.OK},
		{two, want(4, 4, 1), api.Denial{First: first, Rest: rest, Short: []int{0, 0, 0, 0}}, api.ErrProof},
		{two, want(4, 5, 1), api.Denial{First: first, Rest: rest, Short: []int{0, 0, 0, 0}}, api.OK},
		{nil, want(5, 0, 0), api.Denial{First: rest, Rest: rest, Short: []int{1}}, api.OK},
		{nil, want(5, 0, 0), api.Denial{First: rest, Rest: rest, Short: []int{0}}, api.ErrProof},
		{nil, want(5, 5, 0), api.Denial{First: rest, Rest: rest, Short: []int{0}}, api.OK},
		{nil, want(5, 5, 0), api.Denial{First: rest, Rest: rest, Short: []int{1}}, api.ErrProof},
		{nil, want(5, 5, 0), api.Denial{First: rest, Rest: rest, Short: []int{2}}, api.ErrProof},
		{nil, want(5, 5, 0), api.Denial{}, api.ErrProof},
		{nil, want(5, 0, 0), api.Denial{First: rest, Short: []int{0}}, api.ErrProof},
		// Sets of the same weight come in any order.
		{same, want(15, 0, 0), api.Denial{First: []int{0, 1, 2, 3}, Rest: rest, Short: []int{1, 1, 1, 0}}, api.OK},
		{same, want(15, 0, 0), api.Denial{First: []int{0, 2, 1, 3}, Rest: rest, Short: []int{1, 1, 1, 0}}, api.OK},
		{same, want(15, 0, 0), api.Denial{First: []int{0, 2, 2, 3}, Rest: rest, Short: []int{1, 1, 1, 0}}, api.ErrProof},
		{twelve, want(15, 0, 0), behind([]int{0, 1, 2, 3}, 2), api.OK},
		{twelve, want(15, 0, 0), behind([]int{0, 1, 2, 3}, 1), api.ErrProof},
		{twelve, want(15, 0, 0), behind([]int{0, 1, 2, 3}, 3), api.ErrProof},
		{twelve, want(15, 0, 0), behind([]int{0, 2, 1, 3}, 2), api.ErrProof},
		{twelve, want(15, 0, 0), behind([]int{0, 1, 1, 3}, 2), api.ErrProof},
		{twelve, want(15, 0, 0), behind([]int{0, 1, 2}, 2), api.ErrProof},
		{twelve, want(15, 0, 0), behind([]int{0, 1, 2, 3, 3}, 2), api.ErrProof},
		{twelve, want(15, 0, 0), behind([]int{0, 1, 2, 3}, 4), api.ErrProof},
		{twelve, want(15, 0, 0), behind([]int{0, 1, 2, 3}, 5), api.ErrProof},
		{twelve, want(4, 4, 0), behind([]int{0, 1, 2, 3}, 0), api.OK}, // the set behind the empty one is looked at
		{twelve, want(4, 4, 0), behind([]int{0, 1, 2, 3}, 1), api.ErrProof},
		{twelve, want(4, 6, 0), behind([]int{0, 1, 2, 3}, 0), api.ErrProof},
		{twelve, want(4, 6, 0), behind([]int{0, 1, 2, 3}, 2), api.ErrProof},
	} {
		if e := stack.CheckDeny(c.box, c.w, c.d); e != c.e {
			t.Error("P4.11: CheckDeny:", i, e)
		}
		if accepted(c.box, c.w, c.d) != (c.e == api.OK) {
			t.Error("the test's own check of a denial:", i)
		}
	}
}

func TestDeny(t *testing.T) {
	denied := 0
	for _, x := range slices.Concat(trials(1000, 8), trials(60, 14)) {
		d, e := stack.Deny(x.box, x.w)
		if len(goodStacks(x.box, x.w)) > 0 {
			if e != api.ErrNone || !isNothing(d) {
				t.Fatal("P4.11: Deny where there is a good stack:", x, d, e)
			}
			continue
		}
		denied++
		if e != api.OK || !accepted(x.box, x.w, d) {
			t.Fatal("P4.11: Deny:", x, d, e)
		}
		if e := stack.CheckDeny(x.box, x.w, d); e != api.OK {
			t.Fatal("P4.12: CheckDeny of Deny:", x, d, e)
		}
	}
	if denied < 200 {
		t.Error("too few denials are tested:", denied)
	}
}

// anyDenial returns lists that may well be a denial, whether there is a good stack or not: the tables are right, and so are the sets that are too short.
func anyDenial(box []api.Block, w api.Want) api.Denial {
	n := min(len(box), api.MaxHalf)
	table := func(part []api.Block) []int {
		var sets []int
		for number := range 1 << len(part) {
			sets = append(sets, number)
		}
		slices.SortStableFunc(sets, func(a, b int) int { return weightOf(part, w, a) - weightOf(part, w, b) })
		return sets
	}
	d := api.Denial{First: table(box[:n]), Rest: table(box[n:])}
	for _, a := range d.First {
		short := 0
		for short < len(d.Rest) && weightOf(box[:n], w, a)+weightOf(box[n:], w, d.Rest[short]) < w.Len-w.Tol+w.Film {
			short++
		}
		d.Short = append(d.Short, short)
	}
	return d
}

// change changes an element of a denial, or exchanges two, or leaves one out.
func change(r *rand.Rand, d *api.Denial) {
	list := []*[]int{&d.First, &d.Rest, &d.Short}[r.Intn(3)]
	l := *list
	if len(l) == 0 {
		return
	}
	i, j := r.Intn(len(l)), r.Intn(len(l))
	switch r.Intn(5) {
	case 0, 1:
		l[i] += r.Intn(3) - 1
	case 2:
		l[i], l[j] = l[j], l[i]
	case 3:
		*list = slices.Delete(l, i, i+1)
	case 4:
		if list == &d.First && max(i, j) < len(d.Short) { // and the number of sets with them
			l[i], l[j] = l[j], l[i]
			d.Short[i], d.Short[j] = d.Short[j], d.Short[i]
		}
	}
}

// TestCheckDeny gives changed denials, and what would be denials if there were no good stack.
func TestCheckDeny(t *testing.T) {
	r := rand.New(rand.NewSource(16))
	right, wrong := 0, 0
	for _, x := range slices.Concat(trials(1500, 5), trials(40, 12)) {
		for changes := range 6 {
			d := anyDenial(x.box, x.w)
			for range changes {
				change(r, &d)
			}
			e := api.ErrProof
			if accepted(x.box, x.w, d) {
				e = api.OK
				right++
			} else {
				wrong++
			}
			if f := stack.CheckDeny(x.box, x.w, d); f != e {
				t.Fatal("P4.11: CheckDeny:", x, d, f)
			}
			if e == api.OK && len(goodStacks(x.box, x.w)) > 0 {
				t.Fatal("P4.12: a denial is accepted, and there is a good stack:", x, d)
			}
		}
	}
	if right < 500 || wrong < 2000 {
		t.Error("too few lists are tested:", right, wrong)
	}
}
