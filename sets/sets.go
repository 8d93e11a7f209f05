// Package sets reckons with sets of squares, 64 bits each.
package sets

import (
	"iter"
	"math/bits"
)

// Set has bit n for square n.
type Set uint64

const (
	fileA   Set = 0x0101010101010101
	fileH   Set = fileA << 7
	rank1   Set = 0xff
	rank8   Set = rank1 << 56
	rising  Set = 0x8040201008040201 // a1 to h8
	falling Set = 0x0102040810204080 // a8 to h1
)

// LastRanks are those on which no pawn can stand.
const LastRanks = rank1 | rank8

// One is the set of this square alone.
func One(square int) Set {
	return 1 << square
}

// Squares yields the squares of the set from the lowest bit on.
func (s Set) Squares() iter.Seq[int] {
	return func(yield func(int) bool) {
		for rest := s; rest != 0; rest &= rest - 1 {
			if !yield(bits.TrailingZeros64(uint64(rest))) {
				return
			}
		}
	}
}

// Subsets yields every set that has no squares but some of these: none of them first, all of them last. Subtracting the set from one of them adds 1 to it, where the bits between are carried over.
func (s Set) Subsets() iter.Seq[Set] {
	return func(yield func(Set) bool) {
		for part := Set(0); yield(part) && part != s; {
			part = (part - s) & s
		}
	}
}

// left and right cut off what would come in again at the other edge of the board.
func (s Set) left() Set  { return s >> 1 &^ fileH }
func (s Set) right() Set { return s << 1 &^ fileA }

// up moves the set by whole ranks, down if they are below 0.
func (s Set) up(ranks int) Set {
	if ranks < 0 {
		return s >> (-8 * ranks)
	}
	return s << (8 * ranks)
}

func (s Set) turned() Set {
	return Set(bits.Reverse64(uint64(s)))
}
