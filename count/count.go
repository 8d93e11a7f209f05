// Package count tells in how many ways a game may go on.
package count

import (
	"rook/api"
	"rook/game"
	"rook/gather"
	"rook/memory"
	"rook/moves"
	"rook/position"
	"rook/ways"
)

// Counter asks a way, and a memory ahead of it.
type Counter struct {
	way    ways.Way
	number int
	memory memory.Memory
}

// By is a counter that asks this way. It needs the way's number too, so that what one way counted is never told as another one's.
func By(w ways.Way, number int, m memory.Memory) Counter {
	return Counter{way: w, number: number, memory: m}
}

// Paths are those of a position to a depth.
func (c Counter) Paths(p api.Position, depth int) uint64 {
	if depth == 0 {
		return 1
	}
	q := memory.Ask(p, depth, c.number)
	if paths, ok := c.memory.Recall(q); ok {
		return paths
	}
	paths := c.sum(p, depth)
	c.memory.Remember(q, paths)
	return paths
}

// sum does without the positions behind the last moves, which are most of all, as each of them has one path.
func (c Counter) sum(p api.Position, depth int) uint64 {
	if depth == 1 {
		return uint64(gather.Count(c.way.Moves(p)))
	}
	return gather.Sum(c.way.Moves(p), func(m moves.Move) uint64 {
		return c.Paths(position.After(p, m), depth-1)
	})
}

// Divide is a new list of the legal moves, in rising order, with the paths behind each.
func (c Counter) Divide(p api.Position, depth int) []api.Count {
	var list []api.Count
	for _, m := range game.Moves(c.way, p) {
		list = append(list, api.Count{Move: m.Text(), Paths: c.Paths(position.After(p, m), depth-1)})
	}
	return list
}
