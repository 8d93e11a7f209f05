package game

import (
	"iter"
	"slices"
	"testing"

	"rook/api"
	"rook/moves"
	"rook/notation"
	"rook/ways"
)

func read(t *testing.T, text string) api.Position {
	p, ok := notation.Read(text)
	if !ok {
		t.Fatalf("%q is no position", text)
	}
	return p
}

// told is a way that answers what it was told to, and notes how many moves it was asked for.
func told(attacked bool, asked *int, list ...moves.Move) ways.Way {
	return ways.Way{
		Attacked: func([64]byte, int, bool) bool { return attacked },
		Moves: func(api.Position) iter.Seq[moves.Move] {
			return func(yield func(moves.Move) bool) {
				for _, m := range list {
					*asked++
					if !yield(m) {
						return
					}
				}
			}
		},
	}
}

// Whatever is asked here is asked of the way that is given.
func TestTheWayIsAsked(t *testing.T) {
	asked := 0
	a, b, c := moves.Move{From: 8, To: 16}, moves.Move{From: 1, To: 18}, moves.Move{From: 1, To: 16}
	p := read(t, "4k3/8/8/8/8/8/8/4K2R w - - 0 1")
	w := told(true, &asked, a, b, c)
	if got := Moves(w, p); !slices.Equal(got, []moves.Move{a, c, b}) {
		t.Errorf("Moves: %v", got)
	}
	if got := Texts(w, p); !slices.Equal(got, []string{"a2a3", "b1a3", "b1c3"}) {
		t.Errorf("Texts: %q", got)
	}
	if got := Look(w, p); got != (api.State{Check: true, Moves: 3}) {
		t.Errorf("Look: %+v", got)
	}
	for check, want := range map[bool]int{true: api.Mate, false: api.Stalemate} {
		if got := Look(told(check, &asked), p); got != (api.State{Check: check, Over: want}) {
			t.Errorf("Look without moves: %+v", got)
		}
	}
	asked = 0
	if !IsLegal(w, p, b) || asked != 2 {
		t.Errorf("the second move is found behind %d", asked)
	}
	if IsLegal(w, p, moves.Move{From: 8, To: 16, Turn: 'q'}) {
		t.Error("a move that turns is taken for one that does not")
	}
	asked = 0
	if !CanMove(w, p) || asked != 1 {
		t.Errorf("that there is a move is known behind %d", asked)
	}
	if CanMove(told(true, &asked), p) {
		t.Error("without moves there is one")
	}
}

func TestCheckIsThatOfTheSideToMove(t *testing.T) {
	for number := api.Letters; number <= api.Sets; number++ {
		w, _ := ways.Of(number)
		for text, want := range map[string]bool{
			"4k3/8/8/8/8/8/8/r3K3 w - - 0 1":  true,
			"R3k3/8/8/8/8/8/8/4K3 b - - 0 1":  true,
			"4k3/8/8/8/8/8/r7/4K3 w - - 0 1":  false,
			"4k3/R7/8/8/8/8/8/4K3 b - - 0 1":  false,
			"4k3/8/8/8/8/8/8/rN2K3 w - - 0 1": false,
		} {
			if got := Check(w, read(t, text)); got != want {
				t.Errorf("way %d: %q: %t", number, text, got)
			}
		}
	}
}

func TestIsDead(t *testing.T) {
	for men, want := range map[string]bool{
		"Kk": true, "KkN": true, "Kkn": true, "KkB": true, "Kkb": true,
		"KkNN": false, "KkNn": false, "KkBb": false, "KkBN": false, "KkP": false, "Kkp": false, "KkR": false, "Kkr": false, "KkQ": false, "Kkq": false,
	} {
		var squares [64]byte
		for i := range squares {
			squares[i] = '.'
		}
		copy(squares[10:], men)
		if isDead(squares) != want {
			t.Errorf("%s: want %t", men, want)
		}
	}
}
