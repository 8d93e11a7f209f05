// Package board: the names of squares and the letters of men, which all other packages speak of.
package board

import "bytes"

// Letters are those of the men. Their order is also that of the sets in package sets.
const Letters = "PNBRQKpnbrqk"

// Empty is the letter of a square on which nothing stands.
const Empty byte = '.'

// Name is the text of a square, 0 to 63.
func Name(square int) string {
	return string([]byte{'a' + byte(square%8), '1' + byte(square/8)})
}

// Square is the number of the square with this name; false, if there is none.
func Square(name string) (int, bool) {
	if len(name) != 2 || name[0] < 'a' || name[0] > 'h' || name[1] < '1' || name[1] > '8' {
		return 0, false
	}
	return int(name[0]-'a') + 8*int(name[1]-'1'), true
}

// King is the square of a side's king, who is there in every position that can be.
func King(squares [64]byte, isWhite bool) int {
	letter := byte('k')
	if isWhite {
		letter = 'K'
	}
	return bytes.IndexByte(squares[:], letter)
}

// IsPawn tells whether a letter is that of a pawn of either side.
func IsPawn(letter byte) bool { return letter == 'P' || letter == 'p' }

// IsKing tells whether a letter is that of a king of either side.
func IsKing(letter byte) bool { return letter == 'K' || letter == 'k' }
