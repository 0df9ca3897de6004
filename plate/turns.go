package plate

import (
	"iter"

	"wringing/api"
)

// quarters is the number of turns that do not reflect. Each other turn is one of them, and then the reflection that swaps left and right.
const quarters = 4

// turning tells the row and the column to which a turn takes the cell in the row r and the column c; last is the last row and the last column.
type turning struct {
	row, column func(r, c, last int) int
}

// Turn returns the cell on which a cell of a turned plate lies.
func Turn(side, turn, cell int) (int, api.Errno) {
	if !validSide(side) || !isTurn(turn) || !isIndex(cell, side*side) {
		return 0, api.ErrArg
	}
	return turnings()[turn].take(side, cell), api.OK
}

// Compose returns the turn that is one turn after another one.
func Compose(a, b int) (int, api.Errno) {
	if !isTurn(a) || !isTurn(b) {
		return 0, api.ErrArg
	}
	return compose(a, b), api.OK
}

// Inverse returns the turn that undoes a turn.
func Inverse(a int) (int, api.Errno) {
	if !isTurn(a) {
		return 0, api.ErrArg
	}
	return inverse(a), api.OK
}

func turnings() [api.Turns]turning {
	row := func(r, c, last int) int { return r }
	column := func(r, c, last int) int { return c }
	rowBack := func(r, c, last int) int { return last - r }
	columnBack := func(r, c, last int) int { return last - c }
	return [api.Turns]turning{
		{row, column},
		{column, rowBack},
		{rowBack, columnBack},
		{columnBack, row},
		{row, columnBack},
		{column, row},
		{rowBack, column},
		{columnBack, rowBack},
	}
}

func (t turning) take(side, cell int) int {
	r, c, last := cell/side, cell%side, side-1
	return t.row(r, c, last)*side + t.column(r, c, last)
}

// moves yields each cell of a plate, and the cell to which a turn takes it.
func moves(side, turn int) iter.Seq2[int, int] {
	t := turnings()[turn]
	return func(yield func(from, to int) bool) {
		for cell := range side * side {
			if !yield(cell, t.take(side, cell)) {
				return
			}
		}
	}
}

func compose(a, b int) int {
	turned := a + b
	if reflects(a) {
		// In a mirror, quarter turns go the other way.
		turned = a - b + api.Turns
	}
	turned %= quarters
	if reflects(a) != reflects(b) {
		turned += quarters
	}
	return turned
}

func inverse(a int) int {
	if reflects(a) {
		return a
	}
	return (quarters - a) % quarters
}

func reflects(turn int) bool { return turn >= quarters }

func isTurn(turn int) bool { return isIndex(turn, api.Turns) }
