// Package memory remembers counts of positions.
package memory

import (
	"rook/api"
	"rook/key"
)

// Question is all that a count hangs on.
type Question struct {
	position   api.Position
	depth, way int
}

// Ask makes a question of a position that can be. It leaves the clocks out, as no move hangs on them.
func Ask(p api.Position, depth, way int) Question {
	p.Half, p.Full = 0, 0
	return Question{position: p, depth: depth, way: way}
}

// slot keeps the whole question, as others may have the same key. As long as nothing is kept there, it has a position that can not be, which nobody asks for.
type slot struct {
	question Question
	paths    uint64
}

// Memory has a fixed number of slots: what comes to one that is taken drives out what was there.
type Memory struct {
	slots []slot
}

// New is a memory that remembers at most so many counts.
func New(slots int) Memory {
	return Memory{slots: make([]slot, slots)}
}

// Recall is the count of a question; false, if it is not remembered.
func (m Memory) Recall(q Question) (uint64, bool) {
	if len(m.slots) == 0 {
		return 0, false
	}
	s := m.slots[m.place(q)]
	if s.question != q {
		return 0, false
	}
	return s.paths, true
}

// Remember keeps the count of a question, if there is any slot.
func (m Memory) Remember(q Question, paths uint64) {
	if len(m.slots) > 0 {
		m.slots[m.place(q)] = slot{question: q, paths: paths}
	}
}

func (m Memory) place(q Question) int {
	return int(key.Of(q.position) % uint64(len(m.slots)))
}
