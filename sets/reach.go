package sets

import "rook/api"

// Reach is the set of squares that a piece of this kind attacks from a square, 0 to 63, where those in taken are not empty.
func Reach(kind int, square int, taken Set) Set {
	own := One(square)
	switch kind {
	case api.WhitePawn:
		return (own.left() | own.right()).up(1)
	case api.BlackPawn:
		return (own.left() | own.right()).up(-1)
	case api.Knight:
		return knightReach(own)
	case api.Bishop:
		return slantingReach(square, taken)
	case api.Rook:
		return straightReach(square, taken)
	case api.Queen:
		return slantingReach(square, taken) | straightReach(square, taken)
	case api.King:
		return kingReach(own)
	}
	return 0
}

func knightReach(own Set) Set {
	near := own.left() | own.right()
	far := own.left().left() | own.right().right()
	return near.up(2) | near.up(-2) | far.up(1) | far.up(-1)
}

func kingReach(own Set) Set {
	row := own.left() | own | own.right()
	return (row.up(1) | row | row.up(-1)) &^ own
}

func straightReach(square int, taken Set) Set {
	file, rank := square%8, square/8
	return along(fileA<<file, square, taken) | along(rank1.up(rank), square, taken)
}

func slantingReach(square int, taken Set) Set {
	file, rank := square%8, square/8
	return along(rising.up(rank-file), square, taken) | along(falling.up(rank+file-7), square, taken)
}

// along reaches both ways along a line. Subtracting the own square from the men ahead borrows from the first of them, and so changes just the bits up to it; turned round, the same holds for those behind.
func along(line Set, square int, taken Set) Set {
	own := One(square)
	line &^= own
	men := line & taken
	ahead := men - own
	behind := (men.turned() - own.turned()).turned()
	return (ahead ^ behind) & line
}
