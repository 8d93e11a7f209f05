// Package brief writes and reads moves in short notation.
package brief

import (
	"strings"

	"rook/api"
	"rook/board"
	"rook/game"
	"rook/gather"
	"rook/moves"
	"rook/position"
	"rook/ways"
)

// Write is a legal move in short notation.
func Write(w ways.Way, p api.Position, m moves.Move) string {
	return withoutEnding(w, p, m) + ending(w, position.After(p, m))
}

// Read is the legal move with just this short notation; false, if there is none.
func Read(w ways.Way, p api.Position, text string) (moves.Move, bool) {
	return gather.First(gather.Only(w.Moves(p), func(m moves.Move) bool {
		return Write(w, p, m) == text
	}))
}

func withoutEnding(w ways.Way, p api.Position, m moves.Move) string {
	letter := p.Board[m.From]
	switch {
	case board.IsKing(letter) && m.To == m.From+2:
		return "O-O"
	case board.IsKing(letter) && m.To == m.From-2:
		return "O-O-O"
	case board.IsPawn(letter):
		return pawnMove(m)
	}
	return pieceMove(w, p, m)
}

// pawnMove need not ask what stands where: a pawn leaves its file just when it takes something.
func pawnMove(m moves.Move) string {
	text := board.Name(m.To)
	if m.From%8 != m.To%8 {
		text = board.Name(m.From)[:1] + "x" + text
	}
	if m.Turn != 0 {
		text += "=" + great(m.Turn)
	}
	return text
}

func pieceMove(w ways.Way, p api.Position, m moves.Move) string {
	text := great(p.Board[m.From]) + which(w, p, m)
	if p.Board[m.To] != board.Empty {
		text += "x"
	}
	return text + board.Name(m.To)
}

// which tells the piece that moves from others of its kind that could move to the same square.
func which(w ways.Way, p api.Position, m moves.Move) string {
	others, onFile, onRank := false, false, false
	for other := range w.Moves(p) {
		if other.To == m.To && other.From != m.From && p.Board[other.From] == p.Board[m.From] {
			others = true
			onFile = onFile || other.From%8 == m.From%8
			onRank = onRank || other.From/8 == m.From/8
		}
	}
	name := board.Name(m.From)
	switch {
	case !others:
		return ""
	case !onFile:
		return name[:1]
	case !onRank:
		return name[1:]
	}
	return name
}

// ending tells of mate and check of the side that is to move now.
func ending(w ways.Way, p api.Position) string {
	switch {
	case !game.Check(w, p):
		return ""
	case game.CanMove(w, p):
		return "+"
	}
	return "#"
}

func great(letter byte) string {
	return strings.ToUpper(string([]byte{letter}))
}
