package notation

import (
	"strconv"
	"strings"

	"rook/api"
	"rook/board"
)

// Write is the text of a position that can be.
func Write(p api.Position) string {
	words := []string{
		writeBoard(p.Board),
		writeSide(p.White),
		writeCastle(p.Castle),
		writeBehind(p.Behind),
		strconv.Itoa(p.Half),
		strconv.Itoa(p.Full),
	}
	return strings.Join(words, " ")
}

func writeBoard(squares [64]byte) string {
	var ranks [8]string
	for i := range ranks {
		first := 8 * (7 - i)
		ranks[i] = writeRank(squares[first : first+8])
	}
	return strings.Join(ranks[:], "/")
}

func writeRank(letters []byte) string {
	var text []byte
	gap := 0
	for _, letter := range letters {
		if letter == board.Empty {
			gap++
			continue
		}
		text = append(writeGap(text, gap), letter)
		gap = 0
	}
	return string(writeGap(text, gap))
}

func writeGap(text []byte, gap int) []byte {
	if gap == 0 {
		return text
	}
	return append(text, '0'+byte(gap))
}

func writeSide(white bool) string {
	if white {
		return "w"
	}
	return "b"
}

func writeCastle(castle [4]bool) string {
	text := ""
	for i, left := range castle {
		if left {
			text += castleLetters[i : i+1]
		}
	}
	if text == "" {
		return none
	}
	return text
}

func writeBehind(square int) string {
	if square == -1 {
		return none
	}
	return board.Name(square)
}
