package board

import "testing"

func TestNamesAndSquares(t *testing.T) {
	for square := range 64 {
		want := string("abcdefgh"[square%8]) + string("12345678"[square/8])
		if name := Name(square); name != want {
			t.Errorf("Name(%d) = %q, want %q", square, name, want)
		}
		if n, ok := Square(want); n != square || !ok {
			t.Errorf("Square(%q) = %d, %t", want, n, ok)
		}
	}
}

func TestNoSquare(t *testing.T) {
	for _, name := range []string{"", "a", "1", "a0", "a9", "`1", "i1", "A1", "1a", "a1 ", " a1", "a11", "é"} {
		if n, ok := Square(name); n != 0 || ok {
			t.Errorf("Square(%q) = %d, %t", name, n, ok)
		}
	}
}

func TestKing(t *testing.T) {
	var squares [64]byte
	squares[0], squares[7], squares[63] = 'Q', 'K', 'k'
	if white, black := King(squares, true), King(squares, false); white != 7 || black != 63 {
		t.Errorf("kings on %d and %d", white, black)
	}
}

func TestIsPawnAndIsKing(t *testing.T) {
	for letter := range 256 {
		if want := letter == 'P' || letter == 'p'; IsPawn(byte(letter)) != want {
			t.Errorf("pawn: byte %d: want %t", letter, want)
		}
		if want := letter == 'K' || letter == 'k'; IsKing(byte(letter)) != want {
			t.Errorf("king: byte %d: want %t", letter, want)
		}
	}
}
