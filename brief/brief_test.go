package brief

import (
	"iter"
	"testing"

	"rook/api"
	"rook/moves"
	"rook/notation"
	"rook/ways"
)

func read(t *testing.T, text string) api.Position {
	p, ok := notation.Read(text)
	if !ok {
		t.Fatalf("%q is no position", text)
	}
	return p
}

func readMove(t *testing.T, text string) moves.Move {
	m, ok := moves.Read(text)
	if !ok {
		t.Fatalf("%q is no move", text)
	}
	return m
}

func TestWriteAndRead(t *testing.T) {
	for _, c := range []struct{ fen, move, want string }{
		{"4k3/8/8/8/8/8/8/R3K2R w KQ - 0 1", "e1c1", "O-O-O"},
		{"4k3/8/8/8/8/8/8/R3K2R w KQ - 0 1", "e1d1", "Kd1"},
		{"3r3k/2P5/8/8/8/8/8/K7 w - - 0 1", "c7d8n", "cxd8=N"},
		{"6k1/8/8/8/8/8/r6r/5K2 b - - 0 1", "a2g2", "Rag2"},
		{"6k1/5ppp/8/8/8/8/8/R6K w - - 0 1", "a1a8", "Ra8#"},
	} {
		p, m := read(t, c.fen), readMove(t, c.move)
		for number := api.Letters; number <= api.Sets; number++ {
			w, _ := ways.Of(number)
			if got := Write(w, p, m); got != c.want {
				t.Errorf("way %d: %s of %q is %q, want %q", number, c.move, c.fen, got, c.want)
			}
			if got, ok := Read(w, p, c.want); got != m || !ok {
				t.Errorf("way %d: %q of %q is %v, %t, want %s", number, c.want, c.fen, got, ok, c.move)
			}
		}
	}
}

func TestReadNothing(t *testing.T) {
	p := read(t, "6k1/8/8/8/8/8/R6R/7K w - - 0 1")
	for _, text := range []string{"", "Rd2", "Ra2d2", "R2d2", "a2d2", "Rad2+", "rad2"} {
		if m, ok := Read(ways.Quick(), p, text); ok {
			t.Errorf("%q: %v", text, m)
		}
	}
}

// With check, mate is told from the first move of the other side, and no more of them are asked for.
func TestMateAsksForOneMove(t *testing.T) {
	asked := 0
	quick := ways.Quick()
	w := ways.Way{Attacked: quick.Attacked, Moves: func(p api.Position) iter.Seq[moves.Move] {
		return func(yield func(moves.Move) bool) {
			for m := range quick.Moves(p) {
				asked++
				if !yield(m) {
					return
				}
			}
		}
	}}
	for _, c := range []struct {
		fen, want string
		asked     int
	}{
		{"4k3/8/8/8/8/8/8/R3K3 b - - 0 1", "", 0},
		{"R3k3/8/8/8/8/8/8/4K3 b - - 0 1", "+", 1},
		{"R3k3/8/4K3/8/8/8/8/8 b - - 0 1", "#", 0},
		{"7k/5Q2/6K1/8/8/8/8/8 b - - 0 1", "", 0},
	} {
		asked = 0
		if got := ending(w, read(t, c.fen)); got != c.want || asked != c.asked {
			t.Errorf("%q: %q, asked for %d", c.fen, got, asked)
		}
	}
}
