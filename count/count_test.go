package count

import (
	"iter"
	"slices"
	"testing"

	"rook/api"
	"rook/memory"
	"rook/moves"
	"rook/notation"
	"rook/ways"
)

func read(t *testing.T, text string) api.Position {
	p, ok := notation.Read(text)
	if !ok {
		t.Fatalf("%q is no position", text)
	}
	return p
}

const knights = "4k3/8/8/8/8/8/8/N3K2N w - - 0 1"

// told is a way with just these moves, whatever the position, that notes how often it was asked.
func told(asked *int, list ...moves.Move) ways.Way {
	return ways.Way{Moves: func(api.Position) iter.Seq[moves.Move] {
		*asked++
		return slices.Values(list)
	}}
}

func TestTheWayIsAsked(t *testing.T) {
	asked := 0
	w := told(&asked, moves.Move{From: 7, To: 22}, moves.Move{From: 0, To: 17}, moves.Move{From: 7, To: 13})
	c := By(w, api.Sets, memory.New(0))
	for depth, want := range []uint64{1, 3, 9, 27} {
		if got := c.Paths(read(t, knights), depth); got != want {
			t.Errorf("to depth %d: %d, want %d", depth, got, want)
		}
	}
	if asked != 1+4+13 {
		t.Errorf("asked %d times", asked)
	}
	want := []api.Count{{Move: "a1b3", Paths: 3}, {Move: "h1f2", Paths: 3}, {Move: "h1g3", Paths: 3}}
	if got := c.Divide(read(t, knights), 2); !slices.Equal(got, want) {
		t.Errorf("divided: %v", got)
	}
}

func TestTheMemoryIsAskedFirst(t *testing.T) {
	asked := 0
	w := told(&asked, moves.Move{From: 7, To: 22}, moves.Move{From: 0, To: 17})
	m := memory.New(api.MaxSlots)
	for range 3 {
		if got := By(w, api.Sets, m).Paths(read(t, knights), 1); got != 2 || asked != 1 {
			t.Errorf("%d, asked %d times", got, asked)
		}
	}
	other := told(&asked, moves.Move{From: 7, To: 22})
	if got := By(other, api.Letters, m).Paths(read(t, knights), 1); got != 1 || asked != 2 {
		t.Errorf("another way: %d, asked %d times", got, asked)
	}
}

func TestNothingIsAskedForNoDepth(t *testing.T) {
	asked := 0
	if got := By(told(&asked), api.Sets, memory.New(1)).Paths(read(t, knights), 0); got != 1 || asked != 0 {
		t.Errorf("%d, asked %d times", got, asked)
	}
}
