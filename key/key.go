// Package key: one number for a position.
package key

import (
	"iter"
	"strings"

	"rook/api"
	"rook/board"
	"rook/mixing"
)

// The numbers behind the last one of a man on a square, 768.
const (
	firstCastling = 769
	blackToMove   = 773
	firstFile     = 774
)

// Of is the key of a position that can be. The clocks are not in it.
func Of(p api.Position) uint64 {
	var key uint64
	for n := range numbers(&p) {
		key ^= mixing.Number(0, uint64(n))
	}
	return key
}

// numbers yields what tells a position from others, each thing by a number of its own.
func numbers(p *api.Position) iter.Seq[int] {
	return func(yield func(int) bool) {
		for square, letter := range p.Board {
			if letter != board.Empty && !yield(64*strings.IndexByte(board.Letters, letter)+square+1) {
				return
			}
		}
		for i, left := range p.Castle {
			if left && !yield(firstCastling+i) {
				return
			}
		}
		if !p.White && !yield(blackToMove) {
			return
		}
		if p.Behind >= 0 {
			yield(firstFile + p.Behind%8)
		}
	}
}
