package ways

import (
	"math/rand"
	"slices"
	"testing"

	"rook/api"
	"rook/moves"
	"rook/notation"
	"rook/position"
)

var texts = []string{
	"rnbqkbnr/pppppppp/8/8/8/8/PPPPPPPP/RNBQKBNR w KQkq - 0 1",
	"r3k2r/p1ppqpb1/bn2pnp1/3PN3/1p2P3/2N2Q1p/PPPBBPPP/R3K2R w KQkq - 0 1",
	"r3k2r/p1ppqpb1/bn2pnp1/3PN3/1p2P3/2N2Q1p/PPPBBPPP/R3K2R b KQkq - 0 1",
	"r3k2r/1P5p/8/3pP3/8/8/8/R3K2R w KQkq d6 0 1",
	"r3k2r/8/8/8/3Pp3/8/1p5P/R3K2R b KQkq d3 0 1",
	"7k/6Q1/6K1/8/8/8/8/8 b - - 0 1",
}

func both(t *testing.T) [2]Way {
	a, ok := Of(api.Letters)
	b, also := Of(api.Sets)
	if !ok || !also {
		t.Fatal("a way is not there")
	}
	return [2]Way{a, b}
}

func read(t *testing.T, text string) api.Position {
	p, ok := notation.Read(text)
	if !ok || !position.CanBe(p) {
		t.Fatalf("%q is no position", text)
	}
	return p
}

func TestThereAreTwoWays(t *testing.T) {
	for number := -3; number < 10; number++ {
		w, ok := Of(number)
		if want := number == 1 || number == 2; ok != want || (w.Attacked != nil) != want || (w.Moves != nil) != want {
			t.Errorf("way %d: %t", number, ok)
		}
	}
}

// Whoever stops, at whatever move, is not asked any further.
func TestMovesStopWhenAsked(t *testing.T) {
	for i, w := range both(t) {
		for _, text := range texts {
			all := slices.Collect(w.Moves(read(t, text)))
			for most := 1; most <= len(all); most++ {
				var some []moves.Move
				for m := range w.Moves(read(t, text)) {
					some = append(some, m)
					if len(some) == most {
						break
					}
				}
				if !slices.Equal(some, all[:most]) {
					t.Fatalf("way %d, %q: the first %d are %v, want %v", i+1, text, most, some, all[:most])
				}
			}
		}
	}
}

func TestMovesCanBeGoneThroughAgain(t *testing.T) {
	for i, w := range both(t) {
		for _, text := range texts {
			all := w.Moves(read(t, text))
			if a, b := slices.Collect(all), slices.Collect(all); !slices.Equal(a, b) {
				t.Errorf("way %d, %q: first %v, then %v", i+1, text, a, b)
			}
		}
	}
}

func TestNoMoveComesTwice(t *testing.T) {
	for i, w := range both(t) {
		for _, text := range texts {
			times := map[moves.Move]int{}
			for m := range w.Moves(read(t, text)) {
				times[m]++
				if times[m] > 1 {
					t.Errorf("way %d, %q: %s again", i+1, text, m.Text())
				}
			}
		}
	}
}

func TestBothSeeTheSameAttacks(t *testing.T) {
	source := rand.New(rand.NewSource(1))
	ways := both(t)
	for range 3000 {
		var squares [64]byte
		for i := range squares {
			squares[i] = "..............................PNBRQKpnbrqk"[source.Intn(42)]
		}
		for square := range squares {
			for _, byWhite := range []bool{true, false} {
				if a, b := ways[0].Attacked(squares, square, byWhite), ways[1].Attacked(squares, square, byWhite); a != b {
					t.Fatalf("%q: %d by White %t: %t, %t", squares, square, byWhite, a, b)
				}
			}
		}
	}
}
