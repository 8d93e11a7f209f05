// Package ways: the two ways to find moves, which share nothing.
package ways

import (
	"iter"

	"rook/api"
	"rook/letters"
	"rook/moves"
	"rook/sets"
)

// Way answers what is asked of a position that can be: does a side attack a square of its board; which legal moves are there, one by one, in whatever order.
type Way struct {
	Attacked func(squares [64]byte, square int, byWhite bool) bool
	Moves    func(p api.Position) iter.Seq[moves.Move]
}

// Of is the way with this number; false, if there is none.
func Of(number int) (Way, bool) {
	switch number {
	case api.Letters:
		return Way{Attacked: letters.Attacked, Moves: letters.Moves}, true
	case api.Sets:
		return Quick(), true
	}
	return Way{}, false
}

// Quick is the way to ask where either would do.
func Quick() Way {
	return Way{Attacked: sets.Attacked, Moves: sets.Moves}
}
