// Package position tells which positions can be.
package position

import (
	"rook/api"
	"rook/board"
	"rook/gather"
	"rook/sets"
)

// home is where king and rook of a castling stand.
type home struct {
	kingSquare int
	king       byte
	rookSquare int
	rook       byte
}

// homes are in the order of api.Position.Castle.
var homes = [4]home{
	{4, 'K', 7, 'R'},
	{4, 'K', 0, 'R'},
	{60, 'k', 63, 'r'},
	{60, 'k', 56, 'r'},
}

// CanBe tells whether there can be such a position.
func CanBe(p api.Position) bool {
	men, ok := sets.Lay(p.Board)
	return ok &&
		sideCanBe(men, true) && sideCanBe(men, false) &&
		castlingsCanBe(p) && behindCanBe(p) && clocksCanBe(p) &&
		!otherKingAttacked(men, p.White)
}

func sideCanBe(men sets.Men, white bool) bool {
	return gather.Count(men.Kings(white).Squares()) == 1 &&
		gather.Count(men.Side(white).Squares()) <= api.MaxMen &&
		men.Pawns(white)&sets.LastRanks == 0
}

func castlingsCanBe(p api.Position) bool {
	for i, h := range homes {
		if p.Castle[i] && (p.Board[h.kingSquare] != h.king || p.Board[h.rookSquare] != h.rook) {
			return false
		}
	}
	return true
}

// behindCanBe asks for what a pawn's two steps leave: the square that it came from and the one that it passed empty, the pawn in front of them.
func behindCanBe(p api.Position) bool {
	if p.Behind == -1 {
		return true
	}
	first, ahead, pawn := 16, 8, byte('P')
	if p.White {
		first, ahead, pawn = 40, -8, 'p'
	}
	return p.Behind >= first && p.Behind < first+8 &&
		p.Board[p.Behind] == board.Empty &&
		p.Board[p.Behind-ahead] == board.Empty &&
		p.Board[p.Behind+ahead] == pawn
}

func clocksCanBe(p api.Position) bool {
	return p.Half >= 0 && p.Half <= api.MaxClock && p.Full >= 1 && p.Full <= api.MaxClock
}

func otherKingAttacked(men sets.Men, white bool) bool {
	for square := range men.Kings(!white).Squares() {
		if men.Attacked(square, white) {
			return true
		}
	}
	return false
}
