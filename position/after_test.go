package position

import (
	"testing"

	"rook/moves"
)

func TestCastlingsAfter(t *testing.T) {
	for _, c := range []struct {
		from, to int
		want     [4]bool
	}{
		{4, 12, [4]bool{false, false, true, true}},
		{4, 6, [4]bool{false, false, true, true}},
		{7, 6, [4]bool{false, true, true, true}},
		{0, 1, [4]bool{true, false, true, true}},
		{60, 58, [4]bool{true, true, false, false}},
		{63, 62, [4]bool{true, true, false, true}},
		{56, 57, [4]bool{true, true, true, false}},
		{0, 56, [4]bool{true, false, true, false}},
		{63, 7, [4]bool{false, true, false, true}},
		{46, 63, [4]bool{true, true, false, true}},
		{12, 28, [4]bool{true, true, true, true}},
	} {
		all := [4]bool{true, true, true, true}
		if got := castlingsAfter(all, moves.Move{From: c.from, To: c.to}); got != c.want {
			t.Errorf("%d to %d: %v, want %v", c.from, c.to, got, c.want)
		}
		if got := castlingsAfter([4]bool{}, moves.Move{From: c.from, To: c.to}); got != [4]bool{} {
			t.Errorf("%d to %d of none: %v", c.from, c.to, got)
		}
	}
}

func TestBehindAfter(t *testing.T) {
	rows := "....k..." + "p......p" + blankRow + blankRow + blankRow + blankRow + "P..R...P" + "....K..."
	for _, c := range []struct {
		white          bool
		from, to, want int
	}{
		{true, 8, 24, 16}, {true, 15, 31, 23}, {true, 8, 16, -1}, {true, 11, 27, -1},
		{false, 48, 32, 40}, {false, 55, 39, 47}, {false, 55, 47, -1},
	} {
		p := at(rows, c.white)
		q := After(p, moves.Move{From: c.from, To: c.to})
		if q.Behind != c.want || q.White == c.white {
			t.Errorf("%d to %d: Behind %d, want %d; White to move %t", c.from, c.to, q.Behind, c.want, q.White)
		}
		if !CanBe(q) {
			t.Errorf("%d to %d: can not be", c.from, c.to)
		}
	}
	p := at(rows, true)
	p.Behind = 40
	if q := After(p, moves.Move{From: 4, To: 5}); q.Behind != -1 {
		t.Errorf("Behind stays at %d", q.Behind)
	}
}

func TestClocksAfter(t *testing.T) {
	rows := "....k..." + "p......p" + blankRow + "...n...." + blankRow + blankRow + "P..R...P" + "....K..."
	for _, c := range []struct {
		white              bool
		half, full         int
		from, to           int
		wantHalf, wantFull int
	}{
		{true, 5, 7, 4, 5, 6, 7},
		{true, 5, 7, 8, 16, 0, 7},
		{true, 5, 7, 11, 35, 0, 7},
		{true, 65534, 65535, 4, 5, 65535, 65535},
		{true, 65535, 65535, 4, 5, 65535, 65535},
		{false, 5, 7, 60, 61, 6, 8},
		{false, 5, 65534, 48, 40, 0, 65535},
		{false, 65535, 65535, 60, 61, 65535, 65535},
	} {
		p := at(rows, c.white)
		p.Half, p.Full = c.half, c.full
		q := After(p, moves.Move{From: c.from, To: c.to})
		if q.Half != c.wantHalf || q.Full != c.wantFull {
			t.Errorf("%+v: %d, %d", c, q.Half, q.Full)
		}
	}
}
