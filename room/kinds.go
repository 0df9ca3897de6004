package room

import (
	"wringing/api"
	"wringing/compare"
)

// kind tells the facts of one kind from the others.
type kind struct {
	word    string                       // the second line of the text begins with it
	numbers func(f *api.Fact) []*int     // the numbers that stand behind it
	lists   func(f *api.Fact) []wordList // the lists that stand behind these
	valid   func(f api.Fact) bool
}

// wordList is a list of a fact, and the word ahead of it in the text, if it has one.
type wordList struct {
	word   string
	labels *[]int
}

// kinds returns the kinds of facts.
func kinds() map[int]kind {
	return map[int]kind{
		api.FaFilm: {word: "film", numbers: filmNumbers, lists: noLists, valid: func(f api.Fact) bool {
			return isSpan(f.Film, 0, api.MaxFilm)
		}},
		api.FaGauge: {word: "gauge", numbers: gaugeNumbers, lists: noLists, valid: func(f api.Fact) bool {
			// A book of one gauge has no other error than that of the gauge.
			return compare.Check(api.Book{Gauges: []api.Gauge{f.Gauge}}) == api.OK
		}},
		api.FaUse: {word: "use", numbers: useNumbers, lists: noLists, valid: func(f api.Fact) bool {
			return isID(f.Use.Gauge) && isDay(f.Use.Day)
		}},
		api.FaLoan: {word: "loan", numbers: loanNumbers, lists: noLists, valid: func(f api.Fact) bool {
			return isID(f.Loan.Gauge) && isSpan(f.Loan.Days, 0, api.MaxDay) && isWithin(f.Loan.Wear, 0, api.MaxWear)
		}},
		api.FaCompare: {word: "compare", numbers: compareNumbers, lists: piles, valid: func(f api.Fact) bool {
			return isComparison(f.Compare)
		}},
		api.FaMix: {word: "mix", numbers: mixNumbers, lists: labels, valid: func(f api.Fact) bool {
			return isMix(f.Mix)
		}},
		api.FaWithdraw: {word: "withdraw", numbers: targetNumbers, lists: noLists, valid: func(f api.Fact) bool {
			return isName(f.Target) && f.Target != nameOf(f)
		}},
	}
}

// bare returns what facts of this kind have of a fact; its other fields are zero.
func (k kind) bare(f api.Fact) api.Fact {
	bare := api.Fact{Room: f.Room, No: f.No, Known: f.Known, Kind: f.Kind}
	numbers := k.numbers(&f)
	for i, n := range k.numbers(&bare) {
		*n = *numbers[i]
	}
	lists := k.lists(&f)
	for i, l := range k.lists(&bare) {
		*l.labels = *lists[i].labels
	}
	return bare
}

func nameNumbers(f *api.Fact) []*int { return []*int{&f.Room, &f.No, &f.Known, &f.Kind} }

func filmNumbers(f *api.Fact) []*int { return []*int{&f.Film.Lo, &f.Film.Hi} }

func gaugeNumbers(f *api.Fact) []*int {
	g := &f.Gauge
	return []*int{&g.ID, &g.Made, &g.Nominal, &g.Tol.Lo, &g.Tol.Hi, &g.Growth.Num, &g.Growth.Den, &g.Wear}
}

func useNumbers(f *api.Fact) []*int { return []*int{&f.Use.Gauge, &f.Use.Day} }

func loanNumbers(f *api.Fact) []*int {
	return []*int{&f.Loan.Gauge, &f.Loan.Days.Lo, &f.Loan.Days.Hi, &f.Loan.Wear}
}

// compareNumbers leaves out the ID, which is 0.
func compareNumbers(f *api.Fact) []*int {
	c := &f.Compare
	return []*int{&c.Day, &c.Diff, &c.Error, &c.Heat.Lo, &c.Heat.Hi}
}

func mixNumbers(f *api.Fact) []*int { return []*int{&f.Mix.Day} }

func targetNumbers(f *api.Fact) []*int { return []*int{&f.Target.Room, &f.Target.No} }

func noLists(*api.Fact) []wordList { return nil }

func piles(f *api.Fact) []wordList {
	return []wordList{{word: "a", labels: &f.Compare.A}, {word: "b", labels: &f.Compare.B}}
}

func labels(f *api.Fact) []wordList { return []wordList{{labels: &f.Mix.Labels}} }

func isComparison(c api.Compare) bool {
	if _, _, e := compare.Cancel(c.A, c.B); e != api.OK {
		return false
	}
	return isDay(c.Day) && isWithin(c.Diff, -api.MaxLen, api.MaxLen) && isWithin(c.Error, 0, api.MaxTol) &&
		isSpan(c.Heat, -api.MaxHeat, api.MaxHeat)
}

func isMix(x api.Mix) bool {
	if !isWithin(x.Day, 0, api.MaxDay-1) || !isWithin(len(x.Labels), 2, api.MaxLabels) {
		return false
	}
	before := 0
	for _, label := range x.Labels {
		if !isID(label) || label <= before {
			return false
		}
		before = label
	}
	return true
}

func isID(id int) bool { return isWithin(id, 1, api.MaxID) }
