package stack

import "wringing/api"

// Deny returns a proof that no stack has a wanted length.
func Deny(box []api.Block, w api.Want) (api.Denial, api.Errno) {
	t, e := open(box, w)
	if e != api.OK {
		return api.Denial{}, e
	}
	if t.possible() {
		return api.Denial{}, api.ErrNone
	}
	d := api.Denial{First: t.first.sets, Rest: t.rest.sets}
	for _, a := range d.First {
		d.Short = append(d.Short, t.lighter(d.Rest, t.missing(a)-w.Tol))
	}
	return d, api.OK
}

// CheckDeny checks such a proof.
func CheckDeny(box []api.Block, w api.Want, d api.Denial) api.Errno {
	if e := check(box, w); e != api.OK {
		return e
	}
	one, other := halve(box)
	weights, others := weigh(one, w.Film), weigh(other, w.Film)
	if !inOrder(d.First, weights) || !inOrder(d.Rest, others) || len(d.Short) != len(d.First) {
		return api.ErrProof
	}
	for i, short := range d.Short {
		missing := w.Len + w.Film - weights[d.First[i]]
		rest := d.Rest
		// The two empty sets are no stack, and may well be neither too short nor too long: then no set is too short, and the first one is left out.
		if d.First[i] == 0 && short == 0 && missing-w.Tol <= 0 {
			rest = rest[1:]
		}
		if !divides(rest, short, others, missing-w.Tol, missing+w.Tol) {
			return api.ErrProof
		}
	}
	return api.OK
}

// inOrder reports whether a list has the numbers of all sets of a part once each, with weights that do not fall.
func inOrder(sets, weights []int) bool {
	if len(sets) != len(weights) {
		return false
	}
	seen := make([]bool, len(weights))
	last := 0
	for _, s := range sets {
		if s < 0 || s >= len(weights) || seen[s] || weights[s] < last {
			return false
		}
		seen[s] = true
		last = weights[s]
	}
	return true
}

// divides reports whether, of sets in the order of their weights, that many are lighter than a least weight, and all others heavier than a most one.
func divides(sets []int, lighter int, weights []int, least, most int) bool {
	if lighter < 0 || lighter > len(sets) {
		return false
	}
	if lighter > 0 && weights[sets[lighter-1]] >= least {
		return false
	}
	return lighter == len(sets) || weights[sets[lighter]] > most
}
