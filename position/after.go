package position

import (
	"rook/api"
	"rook/board"
	"rook/letters"
	"rook/moves"
)

// After is the position behind a legal move.
func After(p api.Position, m moves.Move) api.Position {
	return api.Position{
		Board:  letters.Place(p, m),
		White:  !p.White,
		Castle: castlingsAfter(p.Castle, m),
		Behind: behindAfter(p, m),
		Half:   halfAfter(p, m),
		Full:   fullAfter(p),
	}
}

func castlingsAfter(castle [4]bool, m moves.Move) [4]bool {
	for i, h := range homes {
		if touches(m, h.kingSquare) || touches(m, h.rookSquare) {
			castle[i] = false
		}
	}
	return castle
}

func touches(m moves.Move, square int) bool {
	return m.From == square || m.To == square
}

func behindAfter(p api.Position, m moves.Move) int {
	ranks := m.To/8 - m.From/8
	if board.IsPawn(p.Board[m.From]) && ranks*ranks == 4 {
		return (m.From + m.To) / 2
	}
	return -1
}

// halfAfter need not ask for what a pawn takes in passing, as a pawn moves then.
func halfAfter(p api.Position, m moves.Move) int {
	if board.IsPawn(p.Board[m.From]) || p.Board[m.To] != board.Empty {
		return 0
	}
	return min(p.Half+1, api.MaxClock)
}

func fullAfter(p api.Position) int {
	if p.White {
		return p.Full
	}
	return min(p.Full+1, api.MaxClock)
}
