package lab

import (
	"strings"

	"rook/api"
	"rook/notation"
	"rook/position"
)

// mostDigits are those of a number of paths in a record.
const mostDigits = 9

// record tells of a position how many paths it has.
type record struct {
	position api.Position
	told     []told
}

type told struct {
	depth int
	paths uint64
}

// readRecord takes the whole record apart ahead of any counting, so that one with a fault at its end is not half done.
func readRecord(text string) (record, bool) {
	parts := strings.Split(text, " ;D")
	p, ok := readPosition(parts[0] + " 0 1")
	if !ok {
		return record{}, false
	}
	r := record{position: p}
	for _, part := range parts[1:] {
		t, ok := readTold(part)
		if !ok {
			return record{}, false
		}
		r.told = append(r.told, t)
	}
	return r, true
}

func readTold(text string) (told, bool) {
	first, second, _ := strings.Cut(text, " ")
	depth, depthOK := readDepth(first, 1)
	paths, pathsOK := notation.Number(second, mostDigits)
	return told{depth: depth, paths: uint64(paths)}, depthOK && pathsOK
}

func readDepth(text string, least int) (int, bool) {
	depth, ok := notation.Number(text, 1)
	return depth, ok && depth >= least && depth <= api.MaxDepth
}

// readPosition answers false of a text that has not the form as of one whose position can not be.
func readPosition(text string) (api.Position, bool) {
	p, ok := notation.Read(text)
	return p, ok && position.CanBe(p)
}
