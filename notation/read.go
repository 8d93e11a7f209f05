// Package notation reads and writes the texts of positions.
package notation

import (
	"strings"

	"rook/api"
	"rook/board"
)

// castleLetters are in the order of api.Position.Castle.
const castleLetters = "KQkq"

// none stands where there is no castling left, or no square Behind.
const none = "-"

// Read takes the text of a position apart; false, if it has not the form. Whether the position can be is not asked here.
func Read(text string) (api.Position, bool) {
	// One part more than there are words is enough to tell that a long text has too many.
	words := strings.SplitN(text, " ", 7)
	if len(words) != 6 {
		return api.Position{}, false
	}
	squares, squaresOK := readBoard(words[0])
	white, whiteOK := readSide(words[1])
	castle, castleOK := readCastle(words[2])
	behind, behindOK := readBehind(words[3])
	half, halfOK := readClock(words[4])
	full, fullOK := readClock(words[5])
	if !squaresOK || !whiteOK || !castleOK || !behindOK || !halfOK || !fullOK {
		return api.Position{}, false
	}
	return api.Position{Board: squares, White: white, Castle: castle, Behind: behind, Half: half, Full: full}, true
}

func readBoard(word string) ([64]byte, bool) {
	var squares [64]byte
	ranks := strings.SplitN(word, "/", 9)
	if len(ranks) != 8 {
		return squares, false
	}
	for i, text := range ranks {
		rank, ok := readRank(text)
		if !ok {
			return squares, false
		}
		copy(squares[8*(7-i):], rank[:])
	}
	return squares, true
}

func readRank(text string) ([8]byte, bool) {
	var rank [8]byte
	file, afterDigit := 0, false
	for i := range len(text) {
		width, letter := 1, text[i]
		isDigit := letter >= '1' && letter <= '8'
		if isDigit {
			width, letter = int(letter-'0'), board.Empty
		} else if strings.IndexByte(board.Letters, letter) < 0 {
			return rank, false
		}
		if isDigit && afterDigit || file+width > 8 {
			return rank, false
		}
		for range width {
			rank[file] = letter
			file++
		}
		afterDigit = isDigit
	}
	return rank, file == 8
}

func readSide(word string) (bool, bool) {
	return word == "w", word == "w" || word == "b"
}

func readCastle(word string) ([4]bool, bool) {
	var castle [4]bool
	if word == none {
		return castle, true
	}
	rest := word
	for i := range castle {
		rest, castle[i] = strings.CutPrefix(rest, castleLetters[i:i+1])
	}
	return castle, word != "" && rest == ""
}

func readBehind(word string) (int, bool) {
	if word == none {
		return -1, true
	}
	return board.Square(word)
}

func readClock(word string) (int, bool) {
	n, ok := Number(word, 5)
	return n, ok && n <= api.MaxClock
}

// Number reads a number in decimal; false, if the word has more than so many digits (nine at most), or a 0 ahead of others.
func Number(word string, digits int) (int, bool) {
	if len(word) < 1 || len(word) > digits || len(word) > 1 && word[0] == '0' {
		return 0, false
	}
	n := 0
	for i := range len(word) {
		if word[i] < '0' || word[i] > '9' {
			return 0, false
		}
		n = 10*n + int(word[i]-'0')
	}
	return n, true
}
