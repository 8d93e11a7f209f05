package sets

import (
	"strings"

	"rook/api"
	"rook/board"
)

// Men has for each of board.Letters, in their order, the squares on which it stands.
type Men [12]Set

// The places in Men at which those of a side begin.
const (
	white = 0
	black = 6
)

// Lay makes the sets of a board; false, if it has a byte that is neither a man's letter nor board.Empty.
func Lay(squares [64]byte) (Men, bool) {
	var men Men
	for square, letter := range squares {
		if letter == board.Empty {
			continue
		}
		place := strings.IndexByte(board.Letters, letter)
		if place < 0 {
			return Men{}, false
		}
		men[place] |= One(square)
	}
	return men, true
}

func begin(isWhite bool) int {
	if isWhite {
		return white
	}
	return black
}

// kinds are those of a side's men, in the order of Men.
func kinds(isWhite bool) [6]int {
	pawn := api.BlackPawn
	if isWhite {
		pawn = api.WhitePawn
	}
	return [6]int{pawn, api.Knight, api.Bishop, api.Rook, api.Queen, api.King}
}

// Side is where the men of a side stand.
func (m Men) Side(isWhite bool) Set {
	var all Set
	for i := range 6 {
		all |= m[begin(isWhite)+i]
	}
	return all
}

// Pawns is where the pawns of a side stand.
func (m Men) Pawns(isWhite bool) Set { return m[begin(isWhite)] }

// Kings is where the kings of a side stand.
func (m Men) Kings(isWhite bool) Set { return m[begin(isWhite)+5] }

// Attacked tells whether a side attacks a square: whether from there a piece would reach one of its own kind. A pawn is seen by a pawn of the other side, as these two look towards one another.
func (m Men) Attacked(square int, byWhite bool) bool {
	taken := m.Side(true) | m.Side(false)
	for i, kind := range kinds(!byWhite) {
		if Reach(kind, square, taken)&m[begin(byWhite)+i] != 0 {
			return true
		}
	}
	return false
}

// Attacked tells of a board whether a side attacks a square.
func Attacked(squares [64]byte, square int, byWhite bool) bool {
	men, _ := Lay(squares)
	return men.Attacked(square, byWhite)
}
