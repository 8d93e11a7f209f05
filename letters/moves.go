package letters

import (
	"iter"

	"rook/api"
	"rook/board"
	"rook/gather"
	"rook/moves"
)

// Moves yields the legal moves of a position that can be.
func Moves(p api.Position) iter.Seq[moves.Move] {
	return gather.Only(allMoves(&p), func(m moves.Move) bool {
		squares := Place(p, m)
		return !Attacked(squares, board.King(squares, p.White), !p.White)
	})
}

// allMoves yields those too behind which the own king is attacked.
func allMoves(p *api.Position) iter.Seq[moves.Move] {
	return func(yield func(moves.Move) bool) {
		for from, letter := range p.Board {
			if !isMan(letter, p.White) {
				continue
			}
			for to := range targets(p, from) {
				if !yieldTurned(letter, from, to, yield) {
					return
				}
			}
		}
	}
}

// yieldTurned yields a move, or the four of a pawn that comes to its last rank.
func yieldTurned(letter byte, from, to int, yield func(moves.Move) bool) bool {
	if !board.IsPawn(letter) || to/8 != 0 && to/8 != 7 {
		return yield(moves.Move{From: from, To: to})
	}
	for i := range len(moves.Turns) {
		if !yield(moves.Move{From: from, To: to, Turn: moves.Turns[i]}) {
			return false
		}
	}
	return true
}

// targets yields the squares to which the man on a square moves.
func targets(p *api.Position, from int) iter.Seq[int] {
	attacked := gather.Only(attacks(&p.Board, from), func(to int) bool { return mayGo(p, from, to) })
	switch {
	case board.IsPawn(p.Board[from]):
		return gather.Chain(attacked, ahead(p, from))
	case board.IsKing(p.Board[from]):
		return gather.Chain(attacked, castlings(p, from))
	}
	return attacked
}

// mayGo tells whether a man moves to a square that it attacks.
func mayGo(p *api.Position, from, to int) bool {
	if board.IsPawn(p.Board[from]) {
		return to == p.Behind || isMan(p.Board[to], !p.White)
	}
	return !isMan(p.Board[to], p.White)
}

// ahead yields the one or two squares to which a pawn moves without taking anything.
func ahead(p *api.Position, from int) iter.Seq[int] {
	second, s := 6, step{0, -1}
	if p.White {
		second, s = 1, step{0, 1}
	}
	most := 1
	if from/8 == second {
		most = 2
	}
	return func(yield func(int) bool) {
		made := 0
		for to := range walk(&p.Board, from, s) {
			if made == most || p.Board[to] != board.Empty || !yield(to) {
				return
			}
			made++
		}
	}
}

// castlings yields the squares to which a king castles.
func castlings(p *api.Position, king int) iter.Seq[int] {
	first := 2
	if p.White {
		first = 0
	}
	return func(yield func(int) bool) {
		if p.Castle[first] && mayCastle(p, king, king+3, 1) && !yield(king+2) {
			return
		}
		if p.Castle[first+1] && mayCastle(p, king, king-4, -1) && !yield(king-2) {
			return
		}
	}
}

// mayCastle walks from the king to the rook, and once more along the king's own way.
func mayCastle(p *api.Position, king, rook, side int) bool {
	for square := king + side; square != rook; square += side {
		if p.Board[square] != board.Empty {
			return false
		}
	}
	for i := range 3 {
		if Attacked(p.Board, king+i*side, !p.White) {
			return false
		}
	}
	return true
}

// Place is the board behind a move.
func Place(p api.Position, m moves.Move) [64]byte {
	squares := p.Board
	letter := squares[m.From]
	squares[m.From] = board.Empty
	squares[m.To] = turned(letter, m.Turn)
	switch {
	case board.IsPawn(letter) && m.To == p.Behind:
		squares[m.From/8*8+m.To%8] = board.Empty
	case board.IsKing(letter) && m.To == m.From+2:
		squares[m.From+1], squares[m.From+3] = squares[m.From+3], board.Empty
	case board.IsKing(letter) && m.To == m.From-2:
		squares[m.From-1], squares[m.From-4] = squares[m.From-4], board.Empty
	}
	return squares
}

// turned is the letter of a man, or of what it turns into.
func turned(letter, turn byte) byte {
	switch {
	case turn == 0:
		return letter
	case isMan(letter, true):
		return turn - 'a' + 'A'
	}
	return turn
}
