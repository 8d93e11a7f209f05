// Package moves: what a move is, and its text.
package moves

import (
	"strings"

	"rook/board"
)

// Turns are the letters of what a pawn may turn into.
const Turns = "qrbn"

// Move goes from one square to another one. Turn is one of Turns, if a pawn turns, else 0.
type Move struct {
	From, To int
	Turn     byte
}

// Text is the move's text.
func (m Move) Text() string {
	text := board.Name(m.From) + board.Name(m.To)
	if m.Turn != 0 {
		text += string([]byte{m.Turn})
	}
	return text
}

// Read is the move with this text; false, if it has not the form of one.
func Read(text string) (Move, bool) {
	if len(text) != 4 && len(text) != 5 {
		return Move{}, false
	}
	from, fromOK := board.Square(text[:2])
	to, toOK := board.Square(text[2:4])
	turn, turnOK := readTurn(text[4:])
	if !fromOK || !toOK || !turnOK {
		return Move{}, false
	}
	return Move{From: from, To: to, Turn: turn}, true
}

// readTurn takes at most one byte.
func readTurn(text string) (byte, bool) {
	if text == "" {
		return 0, true
	}
	return text[0], strings.IndexByte(Turns, text[0]) >= 0
}
