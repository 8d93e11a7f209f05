package sets

import (
	"iter"

	"rook/api"
	"rook/moves"
)

// The places, within a side, of the men who move in ways of their own.
const (
	pawn = 0
	king = 5
)

// castling says where the king comes to, which squares must be empty, and which ones not attacked.
type castling struct {
	to               int
	between, crossed Set
}

// castlings are in the order of api.Position.Castle.
var castlings = [4]castling{
	{6, 0x60, 0x70},
	{2, 0x0e, 0x1c},
	{62, 0x60 << 56, 0x70 << 56},
	{58, 0x0e << 56, 0x1c << 56},
}

// field is a position in sets, seen by the side to move.
type field struct {
	men        Men
	white      bool
	own, other Set
	behind     Set
	castle     [4]bool
}

func fieldOf(p api.Position) field {
	men, _ := Lay(p.Board)
	f := field{men: men, white: p.White, own: men.Side(p.White), other: men.Side(!p.White), castle: p.Castle}
	if p.Behind >= 0 {
		f.behind = One(p.Behind)
	}
	return f
}

// Moves yields the legal moves of a position that can be.
func Moves(p api.Position) iter.Seq[moves.Move] {
	return func(yield func(moves.Move) bool) {
		f := fieldOf(p)
		for place, kind := range kinds(f.white) {
			for from := range f.men[begin(f.white)+place].Squares() {
				for to := range f.targets(place, kind, from).Squares() {
					if f.isLegal(place, from, to) && !yieldTurned(place, from, to, yield) {
						return
					}
				}
			}
		}
	}
}

// yieldTurned yields a move, or the four of a pawn that comes to its last rank.
func yieldTurned(place, from, to int, yield func(moves.Move) bool) bool {
	if place != pawn || One(to)&LastRanks == 0 {
		return yield(moves.Move{From: from, To: to})
	}
	for _, turn := range []byte(moves.Turns) {
		if !yield(moves.Move{From: from, To: to, Turn: turn}) {
			return false
		}
	}
	return true
}

// targets are the squares to which a man moves, those too behind which the own king is attacked.
func (f field) targets(place, kind, from int) Set {
	reached := Reach(kind, from, f.own|f.other)
	switch place {
	case pawn:
		return reached&(f.other|f.behind) | f.ahead(from)
	case king:
		return reached&^f.own | f.castled()
	}
	return reached &^ f.own
}

// ranks is how many ranks up a pawn of the side to move goes by one step.
func (f field) ranks() int {
	if f.white {
		return 1
	}
	return -1
}

// ahead has a second square only if the first step led to the rank behind which all pawns start.
func (f field) ahead(from int) Set {
	third := rank8.up(-2)
	if f.white {
		third = rank1.up(2)
	}
	empty := ^(f.own | f.other)
	once := One(from).up(f.ranks()) & empty
	twice := (once & third).up(f.ranks()) & empty
	return once | twice
}

// castled are the squares to which the king castles.
func (f field) castled() Set {
	var to Set
	for i, c := range castlings {
		if f.castle[i] && f.white == (i < 2) && (f.own|f.other)&c.between == 0 && !f.anyAttacked(c.crossed) {
			to |= One(c.to)
		}
	}
	return to
}

func (f field) anyAttacked(squares Set) bool {
	for square := range squares.Squares() {
		if f.men.Attacked(square, !f.white) {
			return true
		}
	}
	return false
}

// isLegal tells whether behind a move the own king is not attacked.
func (f field) isLegal(place, from, to int) bool {
	f.men = f.after(place, from, to)
	return !f.anyAttacked(f.men.Kings(f.white))
}

// after is where the men stand behind a move, as far as the own king's safety hangs on it. A pawn that turns stays a pawn, as whatever stands there shields him just as well. The rook of a castling stays in its corner, as nobody could come along its rank without having attacked the king before.
func (f field) after(place, from, to int) Men {
	men, own, other := f.men, begin(f.white), begin(!f.white)
	gone := One(to)
	if place == pawn && gone == f.behind {
		gone = f.behind.up(-f.ranks())
	}
	for i := range 6 {
		men[other+i] &^= gone
	}
	men[own+place] ^= One(from) | One(to)
	return men
}
