// Package game asks a way what there is to do in a position, and tells how the game stands.
package game

import (
	"rook/api"
	"rook/board"
	"rook/gather"
	"rook/moves"
	"rook/ways"
)

// Moves are the legal moves, in rising order of their texts.
func Moves(w ways.Way, p api.Position) []moves.Move {
	return gather.InOrder(w.Moves(p), moves.Move.Text)
}

// Texts are those of the legal moves, in rising order.
func Texts(w ways.Way, p api.Position) []string {
	var texts []string
	for _, m := range Moves(w, p) {
		texts = append(texts, m.Text())
	}
	return texts
}

// IsLegal tells whether a move is one of the legal ones.
func IsLegal(w ways.Way, p api.Position, m moves.Move) bool {
	return gather.Has(w.Moves(p), m)
}

// CanMove tells whether there is any legal move. The way is asked for one alone.
func CanMove(w ways.Way, p api.Position) bool {
	_, found := gather.First(w.Moves(p))
	return found
}

// Check tells whether the king of the side to move is attacked.
func Check(w ways.Way, p api.Position) bool {
	return w.Attacked(p.Board, board.King(p.Board, p.White), !p.White)
}

// Look tells how it stands.
func Look(w ways.Way, p api.Position) api.State {
	check, count := Check(w, p), gather.Count(w.Moves(p))
	return api.State{Check: check, Moves: count, Over: over(p.Board, check, count)}
}

func over(squares [64]byte, check bool, count int) int {
	switch {
	case count == 0 && check:
		return api.Mate
	case count == 0:
		return api.Stalemate
	case isDead(squares):
		return api.Dead
	}
	return api.Open
}

// isDead tells whether too few men are left for a mate.
func isDead(squares [64]byte) bool {
	light := 0
	for _, letter := range squares {
		switch letter {
		case board.Empty, 'K', 'k':
		case 'N', 'n', 'B', 'b':
			light++
		default:
			return false
		}
	}
	return light <= 1
}
