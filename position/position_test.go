package position

import (
	"testing"

	"rook/api"
)

func at(rows string, white bool) api.Position {
	p := api.Position{White: white, Behind: -1, Full: 1}
	for i := range 64 {
		p.Board[8*(7-i/8)+i%8] = rows[i]
	}
	return p
}

const blankRow = "........"

const castlesBoard = "r...k..r" + blankRow + blankRow + blankRow + blankRow + blankRow + blankRow + "R...K..R"

func TestEachCastlingAsksForItsOwnKingAndRook(t *testing.T) {
	needs := [4][2]int{{4, 7}, {4, 0}, {60, 63}, {60, 56}}
	for i, squares := range needs {
		p := at(castlesBoard, true)
		p.Castle[i] = true
		if !CanBe(p) {
			t.Errorf("castling %d can not be", i)
		}
		for corner := range p.Board {
			if p.Board[corner] == '.' || p.Board[corner]|32 == 'k' {
				continue
			}
			q := p
			q.Board[corner] = '.'
			if want := corner != squares[1]; CanBe(q) != want {
				t.Errorf("castling %d without a man on %d: want %t", i, corner, want)
			}
		}
		q := p
		king := squares[0]
		q.Board[king], q.Board[king-1] = '.', p.Board[king]
		if CanBe(q) {
			t.Errorf("castling %d with the king beside his square", i)
		}
		q = p
		q.Board[squares[1]] ^= 32
		if CanBe(q) {
			t.Errorf("castling %d with a rook of the other side", i)
		}
	}
}

const pawnsBoard = "....k..." + blankRow + blankRow + "pppppppp" + "PPPPPPPP" + blankRow + blankRow + "....K..."

func TestBehindIsOnOneRankForEachSide(t *testing.T) {
	for _, white := range []bool{true, false} {
		for behind := -3; behind < 70; behind++ {
			p := at(pawnsBoard, white)
			p.Behind = behind
			want := behind == -1 || white && behind/8 == 5 || !white && behind/8 == 2
			if CanBe(p) != want {
				t.Errorf("Behind %d, White to move %t: want %t", behind, white, want)
			}
		}
	}
}

const cornersBoard = "....k..." + blankRow + blankRow + "p......p" + "P......P" + blankRow + blankRow + "....K..."

func TestBehindAsksForTheThreeSquares(t *testing.T) {
	for _, c := range []struct {
		white   bool
		behind  int
		square  int
		letters string
	}{
		{true, 40, 40, "nNrRpP"},
		{true, 40, 48, "nNrRpP"},
		{true, 40, 32, ".PnNrR"},
		{true, 47, 47, "nNbBpP"},
		{true, 47, 55, "nNpP"},
		{true, 47, 39, ".PnN"},
		{false, 16, 16, "nNrRpP"},
		{false, 16, 8, "nNrRpP"},
		{false, 16, 24, ".pnNrR"},
		{false, 23, 23, "nNbBpP"},
		{false, 23, 15, "nNpP"},
		{false, 23, 31, ".pnN"},
	} {
		for _, letter := range []byte(c.letters) {
			p := at(cornersBoard, c.white)
			p.Board[c.square] = letter
			if !CanBe(p) {
				t.Fatalf("%q on %d can not be even without Behind", letter, c.square)
			}
			p.Behind = c.behind
			if CanBe(p) {
				t.Errorf("Behind %d with %q on %d", c.behind, letter, c.square)
			}
		}
	}
}

func TestMenOfEachSide(t *testing.T) {
	full := "rnbqkbnrpppppppp" + blankRow + blankRow + blankRow + blankRow + "PPPPPPPPRNBQKBNR"
	p := at(full, true)
	if !CanBe(p) {
		t.Fatal("16 men of each side")
	}
	for _, letter := range []byte("PNBRQpnbrq") {
		q := p
		q.Board[28] = letter
		if CanBe(q) {
			t.Errorf("a 17th man %q", letter)
		}
	}
}

func TestPawnsNotOnTheLastRanks(t *testing.T) {
	for square := range 64 {
		for _, letter := range []byte("Pp") {
			p := at("........"+"k......."+blankRow+blankRow+blankRow+blankRow+".......K"+"........", true)
			if p.Board[square] != '.' {
				continue
			}
			p.Board[square] = letter
			if letter == 'P' && square == 41 {
				continue // it attacks the king
			}
			if want := square > 7 && square < 56; CanBe(p) != want {
				t.Errorf("%q on %d: want %t", letter, square, want)
			}
		}
	}
}

func TestOnlyTheKingThatIsNotToMoveIsAskedFor(t *testing.T) {
	for _, c := range []struct {
		rows         string
		white, black bool
	}{
		{"k......R" + blankRow + blankRow + blankRow + blankRow + blankRow + blankRow + ".K......", false, true},
		{"k......." + blankRow + blankRow + blankRow + blankRow + blankRow + blankRow + ".K.....r", true, false},
		{"k......R" + blankRow + blankRow + blankRow + blankRow + blankRow + blankRow + ".K.....r", false, false},
		{"k..n...R" + blankRow + blankRow + blankRow + blankRow + blankRow + blankRow + ".K..N..r", true, true},
		{"kK......" + blankRow + blankRow + blankRow + blankRow + blankRow + blankRow + blankRow, false, false},
	} {
		if CanBe(at(c.rows, true)) != c.white || CanBe(at(c.rows, false)) != c.black {
			t.Errorf("%s: want %t, %t", c.rows, c.white, c.black)
		}
	}
}

func TestKingsClocksAndLetters(t *testing.T) {
	good := at(castlesBoard, true)
	for why, change := range map[string]func(p *api.Position){
		"no white king":   func(p *api.Position) { p.Board[4] = '.' },
		"no black king":   func(p *api.Position) { p.Board[60] = '.' },
		"two white kings": func(p *api.Position) { p.Board[20] = 'K' },
		"two black kings": func(p *api.Position) { p.Board[43] = 'k' },
		"Half -1":         func(p *api.Position) { p.Half = -1 },
		"Half 65536":      func(p *api.Position) { p.Half = 65536 },
		"Full 0":          func(p *api.Position) { p.Full = 0 },
		"Full -1":         func(p *api.Position) { p.Full = -1 },
		"Full 65536":      func(p *api.Position) { p.Full = 65536 },
		"a blank":         func(p *api.Position) { p.Board[20] = ' ' },
		"a nought":        func(p *api.Position) { p.Board[20] = 0 },
		"a high byte":     func(p *api.Position) { p.Board[63] = 255 },
	} {
		p := good
		change(&p)
		if CanBe(p) {
			t.Error(why)
		}
	}
	for _, clocks := range [][2]int{{0, 1}, {65535, 65535}} {
		p := good
		p.Half, p.Full = clocks[0], clocks[1]
		if !CanBe(p) {
			t.Errorf("clocks %v", clocks)
		}
	}
	if CanBe(api.Position{}) {
		t.Error("noughts")
	}
}
