package lab

import (
	"iter"
	"slices"
	"testing"

	"rook/api"
	"rook/count"
	"rook/memory"
	"rook/moves"
	"rook/notation"
	"rook/ways"
)

func TestRun(t *testing.T) {
	for _, slots := range []int{0, 1, api.MaxSlots} {
		got := Run(memory.New(slots), "look\n\nperft 3\nperft 3\ncompare 2\nshort e4\nx\n")
		want := []string{"open", "8902", "8902", "same 400", "ok rnbqkbnr/pppppppp/8/8/4P3/8/PPPP1PPP/RNBQKBNR b KQkq e3 0 1", "error 7"}
		if !slices.Equal(got, want) {
			t.Errorf("with %d slots: %q", slots, got)
		}
	}
}

func TestOverWords(t *testing.T) {
	for over, want := range map[int]string{api.Open: "open", api.Mate: "mate", api.Stalemate: "stalemate", api.Dead: "dead"} {
		if overWords[over] != want {
			t.Errorf("%d: %q", over, overWords[over])
		}
	}
}

// Ways that do not count the same are never said to.
func TestCompareAsksBothWays(t *testing.T) {
	told := func(list ...moves.Move) count.Counter {
		w := ways.Way{Moves: func(api.Position) iter.Seq[moves.Move] { return slices.Values(list) }}
		return count.By(w, api.Sets, memory.New(0))
	}
	p, _ := notation.Read(atFirst)
	one, two := moves.Move{From: 12, To: 28}, moves.Move{From: 11, To: 27}
	for _, c := range []struct {
		letters, sets count.Counter
		want          bool
	}{
		{told(one), told(one, two), false},
		{told(one, two), told(one), false},
		{told(one, two), told(two, one), true},
	} {
		l := lab{position: p, letters: c.letters, sets: c.sets}
		if got := l.do("compare 1"); got != c.want || got != slices.Equal(l.report, []string{"same 2"}) || len(l.report) > 1 {
			t.Errorf("%t, %q, want %t", got, l.report, c.want)
		}
	}
}

func TestNothingIsToldOrChangedWhereALineIsWrong(t *testing.T) {
	p, _ := notation.Read(atFirst)
	for _, line := range []string{"x", " ", "fen", "fen x", "fen 8/8/8/8/8/8/8/8 w - - 0 1", "move", "move e2", "move e2e5", "short", "short e5", "moves x", "look x", "perft 4", "divide 0", "compare 4", "epd", "epd x", "epd 8/8/8/8/8/8/8/8 w - -"} {
		l := lab{position: p}
		if l.do(line) || len(l.report) != 0 || l.position != p {
			t.Errorf("%q: %q, %+v", line, l.report, l.position)
		}
	}
}

func TestReadRecord(t *testing.T) {
	r, ok := readRecord("4k3/8/8/8/8/8/8/4K3 w - - ;D3 999999999 ;D1 0")
	if !ok || !slices.Equal(r.told, []told{{3, 999999999}, {1, 0}}) || r.position.Half != 0 || r.position.Full != 1 {
		t.Errorf("%+v, %t", r, ok)
	}
}

func TestReadDepth(t *testing.T) {
	for least := range 2 {
		for text, depth := range map[string]int{"0": 0, "1": 1, "2": 2, "3": 3} {
			if got, ok := readDepth(text, least); ok != (depth >= least) || ok && got != depth {
				t.Errorf("%q, at least %d: %d, %t", text, least, got, ok)
			}
		}
		for _, wrong := range []string{"", "4", "9", "01", "11", "-1", "x", " 1", "1 "} {
			if got, ok := readDepth(wrong, least); ok {
				t.Errorf("%q, at least %d: %d", wrong, least, got)
			}
		}
	}
}
