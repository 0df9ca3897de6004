package room_test

import (
	"slices"
	"testing"

	"wringing/api"
	"wringing/room"
)

// changed returns what a change makes of a deep copy of a fact.
func changed(f api.Fact, change func(f *api.Fact)) api.Fact {
	f = cloned([]api.Fact{f})[0]
	change(&f)
	return f
}

// one is a valid fact of each kind.
func one() map[int]api.Fact {
	g := gauge(7, 1000, -5, 5)
	g.Made, g.Growth, g.Wear = 3, rat(-1, 3), 2
	c := api.Compare{Day: 4, A: []int{1, 2}, B: []int{2, 5}, Diff: -6, Error: 1, Heat: span(-7, 8)}
	return map[int]api.Fact{
		api.FaFilm:     fact(1, 2, 3, span(4, 5)),
		api.FaGauge:    fact(1, 2, 3, g),
		api.FaUse:      fact(1, 2, 3, use(4, 5)),
		api.FaLoan:     fact(1, 2, 3, loan(4, 5, 6, 7)),
		api.FaCompare:  fact(1, 2, 3, c),
		api.FaMix:      fact(1, 2, 3, mix(4, 5, 6, 7)),
		api.FaWithdraw: fact(1, 2, 3, name(1, 3)),
	}
}

// verdicts hold facts with a changed field against what the chapter says of them.
type verdicts struct {
	kind   int
	change func(f *api.Fact, n int)
	right  []int
	wrong  []int
}

func names() []verdicts {
	var all []verdicts
	for kind := api.FaFilm; kind <= api.FaWithdraw; kind++ {
		all = append(all,
			verdicts{kind, func(f *api.Fact, n int) { f.Room = n }, []int{1, api.MaxRooms}, []int{0, api.MaxRooms + 1, -1, leastInt, mostInt}},
			verdicts{kind, func(f *api.Fact, n int) { f.No = n }, []int{1, api.MaxNo}, []int{0, api.MaxNo + 1, -1, leastInt, mostInt}},
			verdicts{kind, func(f *api.Fact, n int) { f.Known = n }, []int{0, api.MaxKnown}, []int{-1, api.MaxKnown + 1, leastInt, mostInt}},
		)
	}
	return all
}

func fields() []verdicts {
	day := []int{0, api.MaxDay}
	noDay := []int{-1, api.MaxDay + 1, leastInt, mostInt}
	id := []int{1, api.MaxID}
	noID := []int{0, -1, api.MaxID + 1, leastInt, mostInt}
	return []verdicts{
		{api.FaFilm, func(f *api.Fact, n int) { f.Film = span(n, n) }, []int{0, api.MaxFilm}, []int{-1, api.MaxFilm + 1, leastInt, mostInt}},
		{api.FaFilm, func(f *api.Fact, n int) { f.Film.Hi = n }, []int{4, api.MaxFilm}, []int{3, api.MaxFilm + 1}},
		{api.FaFilm, func(f *api.Fact, n int) { f.Film.Lo = n }, []int{0, 5}, []int{-1, 6}},
		{api.FaGauge, func(f *api.Fact, n int) { f.Gauge.ID = n }, id, noID},
		{api.FaGauge, func(f *api.Fact, n int) { f.Gauge.Made = n }, day, noDay},
		{api.FaGauge, func(f *api.Fact, n int) { f.Gauge.Nominal = n }, []int{1, api.MaxLen}, []int{0, api.MaxLen + 1, leastInt, mostInt}},
		{api.FaGauge, func(f *api.Fact, n int) { f.Gauge.Tol = span(n, n) }, []int{-api.MaxTol, api.MaxTol}, []int{-api.MaxTol - 1, api.MaxTol + 1, leastInt, mostInt}},
		{api.FaGauge, func(f *api.Fact, n int) { f.Gauge.Tol.Hi = n }, []int{-5}, []int{-6}},
		{api.FaGauge, func(f *api.Fact, n int) { f.Gauge.Growth.Num = n }, []int{-1, 1, -api.MaxGrowth, api.MaxGrowth}, []int{0, 3, api.MaxGrowth + 1, -api.MaxGrowth - 1, leastInt, mostInt}},
		{api.FaGauge, func(f *api.Fact, n int) { f.Gauge.Growth.Den = n }, []int{1, api.MaxPart}, []int{0, -1, api.MaxPart + 1, leastInt, mostInt}},
		{api.FaGauge, func(f *api.Fact, n int) { f.Gauge.Wear = n }, []int{0, api.MaxWear}, []int{-1, api.MaxWear + 1, leastInt, mostInt}},
		{api.FaUse, func(f *api.Fact, n int) { f.Use.Gauge = n }, id, noID},
		{api.FaUse, func(f *api.Fact, n int) { f.Use.Day = n }, day, noDay},
		{api.FaLoan, func(f *api.Fact, n int) { f.Loan.Gauge = n }, id, noID},
		{api.FaLoan, func(f *api.Fact, n int) { f.Loan.Days = span(n, n) }, day, noDay},
		{api.FaLoan, func(f *api.Fact, n int) { f.Loan.Days.Hi = n }, []int{5, api.MaxDay}, []int{4, api.MaxDay + 1}},
		{api.FaLoan, func(f *api.Fact, n int) { f.Loan.Days.Lo = n }, []int{0, 6}, []int{-1, 7}},
		{api.FaLoan, func(f *api.Fact, n int) { f.Loan.Wear = n }, []int{0, api.MaxWear}, []int{-1, api.MaxWear + 1, leastInt, mostInt}},
		{api.FaCompare, func(f *api.Fact, n int) { f.Compare.ID = n }, []int{0}, []int{1, -1, 102, mostInt}},
		{api.FaCompare, func(f *api.Fact, n int) { f.Compare.Day = n }, day, noDay},
		{api.FaCompare, func(f *api.Fact, n int) { f.Compare.Diff = n }, []int{-api.MaxLen, api.MaxLen}, []int{-api.MaxLen - 1, api.MaxLen + 1, leastInt, mostInt}},
		{api.FaCompare, func(f *api.Fact, n int) { f.Compare.Error = n }, []int{0, api.MaxTol}, []int{-1, api.MaxTol + 1, leastInt, mostInt}},
		{api.FaCompare, func(f *api.Fact, n int) { f.Compare.Heat = span(n, n) }, []int{-api.MaxHeat, api.MaxHeat}, []int{-api.MaxHeat - 1, api.MaxHeat + 1, leastInt, mostInt}},
		{api.FaCompare, func(f *api.Fact, n int) { f.Compare.Heat.Hi = n }, []int{-7, api.MaxHeat}, []int{-8, api.MaxHeat + 1}},
		{api.FaCompare, func(f *api.Fact, n int) { f.Compare.Heat.Lo = n }, []int{8, -api.MaxHeat}, []int{9, -api.MaxHeat - 1}},
		{api.FaCompare, func(f *api.Fact, n int) { f.Compare.A = []int{n} }, id, noID},
		{api.FaCompare, func(f *api.Fact, n int) { f.Compare.B = []int{n} }, id, noID},
		{api.FaCompare, func(f *api.Fact, n int) { f.Compare.A = []int{4, n} }, []int{5}, []int{4, 3}},
		{api.FaCompare, func(f *api.Fact, n int) { f.Compare.B = []int{4, n} }, []int{5}, []int{4, 3}},
		{api.FaCompare, func(f *api.Fact, n int) { f.Compare.A = increasing(n) }, []int{0, api.MaxPile}, []int{api.MaxPile + 1, 5000}},
		{api.FaCompare, func(f *api.Fact, n int) { f.Compare.B = increasing(n) }, []int{0, api.MaxPile}, []int{api.MaxPile + 1}},
		{api.FaMix, func(f *api.Fact, n int) { f.Mix.Day = n }, []int{0, api.MaxDay - 1}, []int{-1, api.MaxDay, leastInt, mostInt}},
		{api.FaMix, func(f *api.Fact, n int) { f.Mix.Labels = increasing(n) }, []int{2, api.MaxLabels}, []int{0, 1, api.MaxLabels + 1, 5000}},
		{api.FaMix, func(f *api.Fact, n int) { f.Mix.Labels[1] = n }, []int{6}, []int{5, 7, 4, 8, mostInt}},
		{api.FaMix, func(f *api.Fact, n int) { f.Mix.Labels[0] = n }, []int{1}, []int{0, -1, leastInt}},
		{api.FaMix, func(f *api.Fact, n int) { f.Mix.Labels[2] = n }, []int{api.MaxID}, []int{api.MaxID + 1, mostInt}},
		{api.FaWithdraw, func(f *api.Fact, n int) { f.Target.Room = n }, []int{1, api.MaxRooms}, []int{0, -1, api.MaxRooms + 1, leastInt, mostInt}},
		{api.FaWithdraw, func(f *api.Fact, n int) { f.Target.No = n }, []int{1, api.MaxNo}, []int{0, -1, api.MaxNo + 1, leastInt, mostInt, 2}},
	}
}

// increasing are that many numbers from 1 on.
func increasing(count int) []int {
	var l []int
	for i := range count {
		l = append(l, i+1)
	}
	return l
}

func TestCheckFact(t *testing.T) {
	for _, v := range slices.Concat(names(), fields()) {
		for _, n := range v.right {
			f := changed(one()[v.kind], func(f *api.Fact) { v.change(f, n) })
			if e := room.CheckFact(f); e != api.OK {
				t.Error("P8.1: CheckFact:", f, e)
			}
		}
		for _, n := range v.wrong {
			f := changed(one()[v.kind], func(f *api.Fact) { v.change(f, n) })
			if e := room.CheckFact(f); e != api.ErrArg {
				t.Error("P8.1: CheckFact:", f, e)
			}
		}
	}
	// A fact can withdraw one with its number in another room, or its room with another number.
	for _, target := range []api.Name{name(2, 2), name(1, 1)} {
		if e := room.CheckFact(fact(1, 2, 3, target)); e != api.OK {
			t.Error("P8.1: CheckFact of a withdrawal:", target, e)
		}
	}
}

func TestKindsOfFacts(t *testing.T) {
	for _, kind := range []int{0, -1, 8, leastInt, mostInt} {
		for _, f := range one() {
			f.Kind = kind
			if e := room.CheckFact(f); e != api.ErrArg {
				t.Error("P8.1: CheckFact of a kind:", f, e)
			}
		}
	}
	if e := room.CheckFact(api.Fact{}); e != api.ErrArg {
		t.Error("P8.1: CheckFact of nothing:", e)
	}
	for kind, f := range one() {
		for other := range one() {
			f.Kind = other
			if e := room.CheckFact(f); (e == api.OK) != (other == kind) {
				t.Error("P8.1: CheckFact of another kind:", f, e)
			}
		}
	}
}

// eachField changes one field of a fact.
func eachField() []func(f *api.Fact) {
	return []func(f *api.Fact){
		func(f *api.Fact) { f.Room += 2 },
		func(f *api.Fact) { f.No += 9 },
		func(f *api.Fact) { f.Known++ },
		func(f *api.Fact) { f.Kind++ },
		func(f *api.Fact) { f.Film.Lo++ },
		func(f *api.Fact) { f.Film.Hi++ },
		func(f *api.Fact) { f.Gauge.ID++ },
		func(f *api.Fact) { f.Gauge.Made++ },
		func(f *api.Fact) { f.Gauge.Nominal++ },
		func(f *api.Fact) { f.Gauge.Tol.Lo++ },
		func(f *api.Fact) { f.Gauge.Tol.Hi++ },
		func(f *api.Fact) { f.Gauge.Growth.Num++ },
		func(f *api.Fact) { f.Gauge.Growth.Den++ },
		func(f *api.Fact) { f.Gauge.Wear++ },
		func(f *api.Fact) { f.Use.Gauge++ },
		func(f *api.Fact) { f.Use.Day++ },
		func(f *api.Fact) { f.Loan.Gauge++ },
		func(f *api.Fact) { f.Loan.Days.Lo++ },
		func(f *api.Fact) { f.Loan.Days.Hi++ },
		func(f *api.Fact) { f.Loan.Wear++ },
		func(f *api.Fact) { f.Compare.ID++ },
		func(f *api.Fact) { f.Compare.Day++ },
		func(f *api.Fact) { f.Compare.A = append(f.Compare.A, 9) },
		func(f *api.Fact) { f.Compare.B = append(f.Compare.B, 9) },
		func(f *api.Fact) { f.Compare.Diff++ },
		func(f *api.Fact) { f.Compare.Error++ },
		func(f *api.Fact) { f.Compare.Heat.Lo++ },
		func(f *api.Fact) { f.Compare.Heat.Hi++ },
		func(f *api.Fact) { f.Mix.Day++ },
		func(f *api.Fact) { f.Mix.Labels = append(f.Mix.Labels, 9) },
		func(f *api.Fact) { f.Target.Room++ },
		func(f *api.Fact) { f.Target.No++ },
	}
}

func TestForeignFields(t *testing.T) {
	for _, f := range one() {
		valid := 0
		for i, change := range eachField() {
			g := changed(f, change)
			isForeign := i > 3 && !slices.Contains(ownFields()[f.Kind], i)
			if e := room.CheckFact(g); isForeign && e != api.ErrArg {
				t.Error("P8.1: CheckFact of a fact with a field of another kind:", g, e)
			} else if !isForeign && e == api.OK {
				valid++
			}
		}
		if valid < 3 {
			t.Error("P8.1: CheckFact of changed facts:", f, valid)
		}
		empty := changed(f, func(f *api.Fact) {
			for _, l := range []*[]int{&f.Compare.A, &f.Compare.B, &f.Mix.Labels} {
				if *l == nil {
					*l = []int{}
				}
			}
		})
		if e := room.CheckFact(empty); e != api.OK {
			t.Error("P8.1: CheckFact of a fact with empty lists:", empty, e)
		}
	}
}

// ownFields are the fields of each kind, as indices of eachField.
func ownFields() map[int][]int {
	return map[int][]int{
		api.FaFilm: {4, 5}, api.FaGauge: {6, 7, 8, 9, 10, 11, 12, 13}, api.FaUse: {14, 15}, api.FaLoan: {16, 17, 18, 19},
		api.FaCompare: {21, 22, 23, 24, 25, 26, 27}, api.FaMix: {28, 29}, api.FaWithdraw: {30, 31},
	}
}

func TestSame(t *testing.T) {
	for _, f := range one() {
		if !room.Same(f, cloned([]api.Fact{f})[0]) {
			t.Error("P8.1: Same:", f)
		}
		for i, change := range eachField() {
			g := changed(f, change)
			if room.Same(f, g) || room.Same(g, f) || !room.Same(g, g) {
				t.Error("P8.1: Same:", i, f, g)
			}
		}
		empty := changed(f, func(f *api.Fact) {
			f.Compare.A, f.Compare.B, f.Mix.Labels = []int{}, []int{}, []int{}
		})
		f.Compare.A, f.Compare.B, f.Mix.Labels = nil, nil, nil
		if !room.Same(empty, f) || !room.Same(f, empty) {
			t.Error("P8.1: Same with empty lists:", f)
		}
	}
	a, b := fact(1, 1, 1, mix(4, 5, 6)), fact(1, 1, 1, mix(4, 5, 7))
	c, d := fact(1, 1, 1, cold(4, []int{5}, []int{6}, 7, 8)), fact(1, 1, 1, cold(4, []int{6}, []int{5}, 7, 8))
	if room.Same(a, b) || room.Same(c, d) || !room.Same(api.Fact{}, api.Fact{}) {
		t.Error("P8.1: Same")
	}
}

// many are that many valid facts, with repetitions behind the first sixty.
func many(count int) []api.Fact {
	var l []api.Fact
	for i := range count {
		l = append(l, fact(1, 1+i%api.MaxNo, i%api.MaxNo, use(1, i%api.MaxNo)))
	}
	return l
}

func TestCheckFacts(t *testing.T) {
	bad := func(l []api.Fact, index int) []api.Fact {
		l = cloned(l)
		l[index].Room = 0
		return l
	}
	other := func(l []api.Fact, index int) []api.Fact {
		l = cloned(l)
		l[index].Known++
		return l
	}
	empty := example()[5:6]
	empty = append(empty, empty[0])
	empty[1].Mix.Labels = []int{}
	for i, x := range []struct {
		l     []api.Fact
		e     api.Errno
		index int
	}{
		{nil, api.OK, -1},
		{example(), api.OK, -1},
		{slices.Concat(example(), example()), api.OK, -1},
		{empty, api.OK, -1},
		{many(api.MaxFacts), api.OK, -1},
		{many(api.MaxFacts + 1), api.ErrLimit, -1},
		{bad(many(api.MaxFacts+1), 0), api.ErrLimit, -1},
		{bad(example(), 0), api.ErrArg, 0},
		{bad(example(), 9), api.ErrArg, 9},
		{bad(bad(example(), 9), 4), api.ErrArg, 4},
		{other(many(150), 60), api.ErrClash, 60},
		{other(many(150), 149), api.ErrClash, 149},
		{other(many(150), 0), api.ErrClash, 60},
		{bad(other(many(150), 60), 61), api.ErrClash, 60},
		{bad(other(many(150), 60), 59), api.ErrArg, 59},
	} {
		if e, index := room.CheckFacts(x.l); e != x.e || index != x.index {
			t.Error("P8.1: CheckFacts:", i, e, index)
		}
	}
}

func TestMerge(t *testing.T) {
	l := example()
	a, b := slices.Concat(l[6:], l[:3]), slices.Concat(l[2:8], l[5:7])
	for i, x := range []struct{ a, b, want []api.Fact }{
		{nil, nil, nil},
		{l, nil, l},
		{nil, l, l},
		{l, l, l},
		{a, b, l},
		{b, a, l},
		{many(100), many(100), many(60)},
	} {
		if got, e := room.Merge(x.a, x.b); !sameFacts(got, x.want) || e != api.OK {
			t.Error("P8.2: Merge:", i, got, e)
		}
	}
	wrong := []api.Fact{{}}
	clash := facts(1, 1, 5, span(0, 3))
	for i, x := range []struct {
		a, b []api.Fact
		e    api.Errno
	}{
		{many(201), wrong, api.ErrLimit},
		{wrong, many(201), api.ErrArg},
		{l, many(201), api.ErrLimit},
		{l, wrong, api.ErrArg},
		{slices.Concat(l, clash), nil, api.ErrClash},
		{nil, slices.Concat(l, clash), api.ErrClash},
		{l, clash, api.ErrClash},
		{many(100), many(101), api.ErrLimit},
		{many(200), many(1), api.ErrLimit},
	} {
		if got, e := room.Merge(x.a, x.b); got != nil || e != x.e {
			t.Error("P8.2: Merge:", i, got, e)
		}
	}
}
