// Package letters finds moves by walking over a board of letters, square by square.
package letters

import (
	"iter"
	"strings"

	"rook/board"
)

// step is so many files to the right and so many ranks up.
type step struct{ files, ranks int }

// steps are all by which a piece may go.
var steps = [16]step{
	{0, 1}, {1, 1}, {1, 0}, {1, -1}, {0, -1}, {-1, -1}, {-1, 0}, {-1, 1},
	{1, 2}, {2, 1}, {2, -1}, {1, -2}, {-1, -2}, {-2, -1}, {-2, 1}, {-1, 2},
}

func (s step) back() step { return step{-s.files, -s.ranks} }

// size is the length squared: 1 of a straight step, 2 of a slanting one, 5 of a knight's.
func (s step) size() int { return s.files*s.files + s.ranks*s.ranks }

// goes tells whether a man attacks what lies a step away.
func goes(letter byte, s step) bool {
	switch letter {
	case 'P':
		return s.size() == 2 && s.ranks == 1
	case 'p':
		return s.size() == 2 && s.ranks == -1
	case 'N', 'n':
		return s.size() == 5
	case 'B', 'b':
		return s.size() == 2
	case 'R', 'r':
		return s.size() == 1
	case 'Q', 'q', 'K', 'k':
		return s.size() <= 2
	}
	return false
}

// goesFar tells whether a man may make the same step again and again.
func goesFar(letter byte) bool {
	return strings.IndexByte("BRQbrq", letter) >= 0
}

func isMan(letter byte, isWhite bool) bool {
	if isWhite {
		return letter >= 'A' && letter <= 'Z'
	}
	return letter >= 'a' && letter <= 'z'
}

// next is the square a step away; false, if the step leads off the board.
func next(square int, s step) (int, bool) {
	file, rank := square%8+s.files, square/8+s.ranks
	return 8*rank + file, file >= 0 && file < 8 && rank >= 0 && rank < 8
}

// walk yields one square after the other, up to the first one that is not empty, that one too.
func walk(squares *[64]byte, from int, s step) iter.Seq[int] {
	return func(yield func(int) bool) {
		for square, ok := next(from, s); ok; square, ok = next(square, s) {
			if !yield(square) || squares[square] != board.Empty {
				return
			}
		}
	}
}

// attacks yields the squares that the man on a square attacks.
func attacks(squares *[64]byte, from int) iter.Seq[int] {
	letter := squares[from]
	return func(yield func(int) bool) {
		for _, s := range steps {
			if !goes(letter, s) {
				continue
			}
			for square := range walk(squares, from, s) {
				if !yield(square) {
					return
				}
				if !goesFar(letter) {
					break
				}
			}
		}
	}
}

// Attacked tells whether a side attacks a square. It walks from the square, and asks the first man whom it meets whether he would come the same way back.
func Attacked(squares [64]byte, square int, byWhite bool) bool {
	for _, s := range steps {
		far := false
		for met := range walk(&squares, square, s) {
			letter := squares[met]
			if isMan(letter, byWhite) && goes(letter, s.back()) && (!far || goesFar(letter)) {
				return true
			}
			far = true
		}
	}
	return false
}
