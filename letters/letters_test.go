package letters

import (
	"slices"
	"testing"

	"rook/api"
	"rook/moves"
)

func emptyBoard() [64]byte {
	var squares [64]byte
	for i := range squares {
		squares[i] = '.'
	}
	return squares
}

func TestStepsAreAllDifferent(t *testing.T) {
	for i, s := range steps {
		if slices.Contains(steps[:i], s) || !slices.Contains(steps[:], s.back()) {
			t.Errorf("step %v", s)
		}
	}
}

func TestNextStaysOnTheBoard(t *testing.T) {
	for square := range 64 {
		reached := 0
		for _, s := range steps {
			to, ok := next(square, s)
			if !ok {
				continue
			}
			reached++
			if to < 0 || to > 63 || to%8-square%8 != s.files || to/8-square/8 != s.ranks {
				t.Errorf("%v from %d leads to %d", s, square, to)
			}
		}
		if inside := square%8 > 1 && square%8 < 6 && square/8 > 1 && square/8 < 6; inside != (reached == 16) {
			t.Errorf("%d steps from %d", reached, square)
		}
	}
}

func TestWalkStopsAtTheFirstMan(t *testing.T) {
	squares := emptyBoard()
	squares[24] = 'p'
	if got := slices.Collect(walk(&squares, 0, step{0, 1})); !slices.Equal(got, []int{8, 16, 24}) {
		t.Errorf("up from a1: %v", got)
	}
	if got := slices.Collect(walk(&squares, 7, step{1, 0})); len(got) != 0 {
		t.Errorf("over the edge: %v", got)
	}
}

// What a man attacks, and what is attacked by him alone, is the same.
func TestAttacksAndAttacked(t *testing.T) {
	counts := map[byte]int{'P': 98, 'p': 98, 'N': 336, 'B': 560, 'R': 896, 'Q': 1456, 'K': 420}
	for letter, want := range counts {
		n := 0
		for from := range 64 {
			squares := emptyBoard()
			squares[from] = letter
			seen := slices.Collect(attacks(&squares, from))
			n += len(seen)
			for square := range squares {
				if Attacked(squares, square, letter < 'a') != slices.Contains(seen, square) {
					t.Fatalf("%q on %d, square %d: attacks %v", letter, from, square, seen)
				}
				if Attacked(squares, square, letter > 'Z') {
					t.Fatalf("%q on %d attacks %d for the other side", letter, from, square)
				}
			}
		}
		if n != want {
			t.Errorf("%q attacks %d squares in all, want %d", letter, n, want)
		}
	}
}

func TestPlace(t *testing.T) {
	for _, c := range []struct {
		why    string
		men    map[int]byte
		m      moves.Move
		want   map[int]byte
		behind int
	}{
		{"a step", map[int]byte{1: 'N'}, moves.Move{From: 1, To: 18}, map[int]byte{18: 'N'}, -1},
		{"taking", map[int]byte{1: 'N', 18: 'q'}, moves.Move{From: 1, To: 18}, map[int]byte{18: 'N'}, -1},
		{"in passing", map[int]byte{36: 'P', 35: 'p', 37: 'p'}, moves.Move{From: 36, To: 43}, map[int]byte{43: 'P', 37: 'p'}, 43},
		{"in passing, black", map[int]byte{28: 'p', 29: 'P', 27: 'P'}, moves.Move{From: 28, To: 21}, map[int]byte{21: 'p', 27: 'P'}, 21},
		{"no pawn goes to Behind", map[int]byte{26: 'N', 35: 'p'}, moves.Move{From: 26, To: 43}, map[int]byte{43: 'N', 35: 'p'}, 43},
		{"turning", map[int]byte{48: 'P'}, moves.Move{From: 48, To: 56, Turn: 'r'}, map[int]byte{56: 'R'}, -1},
		{"turning, black", map[int]byte{8: 'p', 1: 'N'}, moves.Move{From: 8, To: 1, Turn: 'n'}, map[int]byte{1: 'n'}, -1},
		{"castling short", map[int]byte{4: 'K', 7: 'R', 0: 'R'}, moves.Move{From: 4, To: 6}, map[int]byte{6: 'K', 5: 'R', 0: 'R'}, -1},
		{"castling long", map[int]byte{4: 'K', 7: 'R', 0: 'R'}, moves.Move{From: 4, To: 2}, map[int]byte{2: 'K', 3: 'R', 7: 'R'}, -1},
		{"castling short, black", map[int]byte{60: 'k', 63: 'r'}, moves.Move{From: 60, To: 62}, map[int]byte{62: 'k', 61: 'r'}, -1},
		{"castling long, black", map[int]byte{60: 'k', 56: 'r'}, moves.Move{From: 60, To: 58}, map[int]byte{58: 'k', 59: 'r'}, -1},
		{"two files, but no king", map[int]byte{4: 'R', 7: 'R'}, moves.Move{From: 4, To: 6}, map[int]byte{6: 'R', 7: 'R'}, -1},
	} {
		p, want := api.Position{Board: emptyBoard(), Behind: c.behind}, emptyBoard()
		for square, letter := range c.men {
			p.Board[square] = letter
		}
		for square, letter := range c.want {
			want[square] = letter
		}
		if got := Place(p, c.m); got != want {
			t.Errorf("%s: %q, want %q", c.why, got, want)
		}
	}
}
