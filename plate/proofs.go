package plate

import (
	"slices"

	"wringing/api"
)

// Prove returns walks that prove that a plate is flat.
func Prove(s api.Shop, plate int) ([][]int, api.Errno) {
	if e := checkPlate(s, plate); e != api.OK {
		return nil, e
	}
	w := walksFrom(s, plate)
	signs := w.signs()
	if !proves(s.Side, signs) {
		return nil, api.ErrNone
	}
	// With further walks a proof stays one, so what could not be left out once never can.
	for i := range slices.Backward(signs) {
		fewer := slices.Concat(signs[:i], signs[i+1:])
		if proves(s.Side, fewer) {
			signs = fewer
		}
	}
	var proof [][]int
	for _, sign := range signs {
		proof = append(proof, w.closed(sign))
	}
	return proof, api.OK
}

// CheckProof checks such a proof.
func CheckProof(s api.Shop, plate int, walks [][]int) api.Errno {
	if e := checkPlate(s, plate); e != api.OK {
		return e
	}
	if len(walks) > api.MaxWalks {
		return api.ErrLimit
	}
	if e := checkSteps(s, walks...); e != api.OK {
		return e
	}
	var signs []api.Sign
	for _, walk := range walks {
		end, ok := follow(s, plate, walk)
		if !ok || end.plate != plate {
			return api.ErrProof
		}
		signs = append(signs, end.sign)
	}
	if !proves(s.Side, signs) {
		return api.ErrProof
	}
	return api.OK
}

// proves reports whether closed walks with some signs prove that a plate is flat. Cells are joined where the signs unite their classes, and an odd way back to a cell pins its class. So without Minus there has to be one class, and with it none that is not pinned: no height is left to choose.
func proves(side int, signs []api.Sign) bool { return freedom(side, signs) == 0 }
