package swap

import (
	"wringing/api"
	"wringing/chain"
	"wringing/compare"
)

// Prove returns a chain for each way, which shows that it explains nothing.
func Prove(m api.Mixed) ([][]int, api.Errno) {
	if e := Check(m); e != api.OK {
		return nil, e
	}
	var chains [][]int
	for a := range accountsOf(m) {
		links, e := chain.Clash(a.system)
		if e != api.OK {
			return nil, e
		}
		chains = append(chains, links)
	}
	return chains, api.OK
}

// CheckProof checks such a proof.
func CheckProof(m api.Mixed, chains [][]int) api.Errno {
	if e := Check(m); e != api.OK {
		return e
	}
	ways := waysOf(m.Mixes)
	if len(chains) != len(ways) {
		return api.ErrProof
	}
	for i, way := range ways {
		if chain.CheckClash(accountOf(m, way).system, chains[i]) != api.OK {
			return api.ErrProof
		}
	}
	return api.OK
}

// CheckWay checks lengths that show that a way explains what was seen.
func CheckWay(m api.Mixed, way [][]int, lengths []int) api.Errno {
	if e := checkWay(m, way); e != api.OK {
		return e
	}
	if fits, e := compare.Fits(translate(m, way), lengths); e != api.OK || !fits {
		return api.ErrProof
	}
	return api.OK
}
