package sets

import (
	"slices"
	"testing"

	"rook/api"
)

func TestSquaresFromTheLowestOn(t *testing.T) {
	for _, c := range []struct {
		set  Set
		want []int
	}{
		{0, nil},
		{1, []int{0}},
		{1 << 63, []int{63}},
		{1<<63 | 1<<32 | 1<<31 | 1, []int{0, 31, 32, 63}},
	} {
		if got := slices.Collect(c.set.Squares()); !slices.Equal(got, c.want) {
			t.Errorf("squares of %x: %v, want %v", uint64(c.set), got, c.want)
		}
	}
	if got := slices.Collect((^Set(0)).Squares()); len(got) != 64 || !slices.IsSorted(got) {
		t.Errorf("squares of the full board: %v", got)
	}
}

func TestSquaresStopWhenAsked(t *testing.T) {
	seen := 0
	for range (^Set(0)).Squares() {
		seen++
		if seen == 3 {
			break
		}
	}
	if seen != 3 {
		t.Errorf("went on to %d", seen)
	}
}

func TestSquaresCanBeGoneThroughAgain(t *testing.T) {
	squares := Set(0b1011).Squares()
	if a, b := slices.Collect(squares), slices.Collect(squares); !slices.Equal(a, b) {
		t.Errorf("first %v, then %v", a, b)
	}
}

func TestSubsets(t *testing.T) {
	for _, c := range []struct {
		set  Set
		want []Set
	}{
		{0, []Set{0}},
		{1, []Set{0, 1}},
		{1 << 63, []Set{0, 1 << 63}},
		{1<<63 | 1<<5 | 1, []Set{0, 1, 1 << 5, 1<<5 | 1, 1 << 63, 1<<63 | 1, 1<<63 | 1<<5, 1<<63 | 1<<5 | 1}},
	} {
		if got := slices.Collect(c.set.Subsets()); !slices.Equal(got, c.want) {
			t.Errorf("subsets of %x: %x, want %x", uint64(c.set), got, c.want)
		}
		var some []Set
		for part := range c.set.Subsets() {
			some = append(some, part)
			if len(some) == 1 {
				break
			}
		}
		if !slices.Equal(some, c.want[:1]) {
			t.Errorf("subsets of %x do not stop: %x", uint64(c.set), some)
		}
	}
}

func TestReachOfNoKindIsEmpty(t *testing.T) {
	for _, kind := range []int{-1, 0, 8} {
		if s := Reach(kind, 27, 0); s != 0 {
			t.Errorf("kind %d: %x", kind, uint64(s))
		}
	}
}

func emptyBoard() [64]byte {
	var squares [64]byte
	for i := range squares {
		squares[i] = '.'
	}
	return squares
}

func TestLay(t *testing.T) {
	squares := emptyBoard()
	if men, ok := Lay(squares); men != (Men{}) || !ok {
		t.Errorf("an empty board: %v, %t", men, ok)
	}
	var want Men
	for i, letter := range []byte("PNBRQKpnbrqk") {
		squares[5*i] = letter
		want[i] = 1 << (5 * i)
	}
	if men, ok := Lay(squares); men != want || !ok {
		t.Errorf("all letters: %v, %t, want %v", men, ok, want)
	}
	for _, wrong := range []byte{0, ' ', '-', '1', 'x', 'X', 200, 255} {
		squares[63] = wrong
		if men, ok := Lay(squares); men != (Men{}) || ok {
			t.Errorf("with %q: %v, %t", wrong, men, ok)
		}
	}
}

func TestSides(t *testing.T) {
	squares := emptyBoard()
	copy(squares[:], "PNBRQKpnbrqk")
	men, _ := Lay(squares)
	for _, c := range []struct {
		what      string
		got, want Set
	}{
		{"white men", men.Side(true), 0x03f},
		{"black men", men.Side(false), 0xfc0},
		{"white pawns", men.Pawns(true), 1 << 0},
		{"black pawns", men.Pawns(false), 1 << 6},
		{"white kings", men.Kings(true), 1 << 5},
		{"black kings", men.Kings(false), 1 << 11},
	} {
		if c.got != c.want {
			t.Errorf("%s: %x, want %x", c.what, uint64(c.got), uint64(c.want))
		}
	}
}

// One man alone attacks just what he reaches, and only for his own side.
func TestAttackedByOneMan(t *testing.T) {
	kinds := map[byte]int{
		'P': api.WhitePawn, 'N': api.Knight, 'B': api.Bishop, 'R': api.Rook, 'Q': api.Queen, 'K': api.King,
		'p': api.BlackPawn, 'n': api.Knight, 'b': api.Bishop, 'r': api.Rook, 'q': api.Queen, 'k': api.King,
	}
	for letter, kind := range kinds {
		isWhite := letter < 'a'
		for from := range 64 {
			squares := emptyBoard()
			squares[from] = letter
			men, _ := Lay(squares)
			for square := range 64 {
				want := Reach(kind, from, 0)&One(square) != 0
				if got := men.Attacked(square, isWhite); got != want {
					t.Fatalf("%q on %d attacks %d: %t, want %t", letter, from, square, got, want)
				}
				if men.Attacked(square, !isWhite) {
					t.Fatalf("%q on %d attacks %d for the other side", letter, from, square)
				}
			}
		}
	}
}

func TestAttackStopsAtTheFirstMan(t *testing.T) {
	for _, between := range []byte("Pp") {
		squares := emptyBoard()
		squares[0], squares[24] = 'R', between
		men, _ := Lay(squares)
		if !men.Attacked(16, true) || !men.Attacked(24, true) || men.Attacked(32, true) {
			t.Errorf("with %q between", between)
		}
	}
}
