// Package rook: legal moves of chess, found in two ways: see DOC.md.
package rook

import (
	"sync"

	"rook/api"
	"rook/brief"
	"rook/count"
	"rook/game"
	"rook/key"
	"rook/lab"
	"rook/magic"
	"rook/memory"
	"rook/moves"
	"rook/notation"
	"rook/position"
	"rook/sets"
	"rook/ways"
)

// Parse reads a position (P3).
func Parse(fen string) (api.Position, api.Errno) {
	p, ok := notation.Read(fen)
	if !ok {
		return api.Position{}, api.ErrForm
	}
	if !position.CanBe(p) {
		return api.Position{}, api.ErrPosition
	}
	return p, api.OK
}

// Format writes a position (P3).
func Format(p api.Position) (string, api.Errno) {
	if !position.CanBe(p) {
		return "", api.ErrPosition
	}
	return notation.Write(p), api.OK
}

// Reach tells where a piece reaches (P4).
func Reach(kind int, square int, taken uint64) (uint64, api.Errno) {
	if kind < api.WhitePawn || kind > api.King || !isSquare(square) {
		return 0, api.ErrSquare
	}
	return uint64(sets.Reach(kind, square, sets.Set(taken))), api.OK
}

// Moves tells the legal moves (P5).
func Moves(fen string, way int) ([]string, api.Errno) {
	p, e := Parse(fen)
	if e != api.OK {
		return nil, e
	}
	w, ok := ways.Of(way)
	if !ok {
		return nil, api.ErrWay
	}
	return game.Texts(w, p), api.OK
}

// Play makes a move (P6).
func Play(fen string, move string) (string, api.Errno) {
	p, m, e := toMove(fen, move)
	if e != api.OK {
		return "", e
	}
	return notation.Write(position.After(p, m)), api.OK
}

// toMove reads what Play and Short are given.
func toMove(fen, move string) (api.Position, moves.Move, api.Errno) {
	p, e := Parse(fen)
	if e != api.OK {
		return api.Position{}, moves.Move{}, e
	}
	m, ok := moves.Read(move)
	if !ok {
		return api.Position{}, moves.Move{}, api.ErrForm
	}
	if !game.IsLegal(ways.Quick(), p, m) {
		return api.Position{}, moves.Move{}, api.ErrIllegal
	}
	return p, m, api.OK
}

// Look tells how it stands (P7).
func Look(fen string) (api.State, api.Errno) {
	p, e := Parse(fen)
	if e != api.OK {
		return api.State{}, e
	}
	return game.Look(ways.Quick(), p), api.OK
}

// Key is the number of a position (P8).
func Key(fen string) (uint64, api.Errno) {
	p, e := Parse(fen)
	if e != api.OK {
		return 0, e
	}
	return key.Of(p), api.OK
}

// Divide counts how games may go on behind each move (P9).
func Divide(fen string, depth int, way int) ([]api.Count, api.Errno) {
	p, w, e := toCount(fen, depth, 1, way)
	if e != api.OK {
		return nil, e
	}
	return count.By(w, way, memory.New(0)).Divide(p, depth), api.OK
}

// toCount reads what Divide and Perft are given; they differ in the least depth.
func toCount(fen string, depth, least, way int) (api.Position, ways.Way, api.Errno) {
	p, e := Parse(fen)
	if e != api.OK {
		return api.Position{}, ways.Way{}, e
	}
	if depth < least || depth > api.MaxDepth {
		return api.Position{}, ways.Way{}, api.ErrDepth
	}
	w, ok := ways.Of(way)
	if !ok {
		return api.Position{}, ways.Way{}, api.ErrWay
	}
	return p, w, api.OK
}

// Cache remembers counts. Those who ask it at the same time wait for one another.
type Cache struct {
	lock   sync.Mutex
	memory memory.Memory
}

// New makes a cache (P10).
func New(slots int) (*Cache, api.Errno) {
	if slots < 0 || slots > api.MaxSlots {
		return nil, api.ErrSlots
	}
	return &Cache{memory: memory.New(slots)}, api.OK
}

// Perft counts how games may go on (P10).
func (c *Cache) Perft(fen string, depth int, way int) (uint64, api.Errno) {
	p, w, e := toCount(fen, depth, 0, way)
	if e != api.OK {
		return 0, e
	}
	c.lock.Lock()
	defer c.lock.Unlock()
	return count.By(w, way, c.memory).Paths(p, depth), api.OK
}

// Magic tells whether a factor is magic (P11).
func Magic(kind int, square int, factor uint64, bits int) (bool, api.Errno) {
	if !isSlider(kind) || !isSquare(square) {
		return false, api.ErrSquare
	}
	if bits < 1 || bits > magic.MaxBits {
		return false, api.ErrTries
	}
	return magic.Is(kind, square, factor, bits), api.OK
}

// Find looks for a factor that is magic (P11).
func Find(kind int, square int, seed uint64, tries int) (uint64, int, api.Errno) {
	if !isSlider(kind) || !isSquare(square) {
		return 0, 0, api.ErrSquare
	}
	if tries < 0 || tries > api.MaxTries {
		return 0, 0, api.ErrTries
	}
	factor, k := magic.Find(kind, square, seed, tries)
	return factor, k, api.OK
}

func isSlider(kind int) bool { return kind == api.Bishop || kind == api.Rook }

func isSquare(square int) bool { return square >= 0 && square < 64 }

// Short is a move in short notation (P12).
func Short(fen string, move string) (string, api.Errno) {
	p, m, e := toMove(fen, move)
	if e != api.OK {
		return "", e
	}
	return brief.Write(ways.Quick(), p, m), api.OK
}

// Long reads a move in short notation (P12).
func Long(fen string, short string) (string, api.Errno) {
	p, e := Parse(fen)
	if e != api.OK {
		return "", e
	}
	m, ok := brief.Read(ways.Quick(), p, short)
	if !ok {
		return "", api.ErrIllegal
	}
	return m.Text(), api.OK
}

// Lab does what the lines of a script say (P13).
func Lab(slots int, script string) ([]string, api.Errno) {
	c, e := New(slots)
	if e != api.OK {
		return nil, e
	}
	return lab.Run(c.memory, script), api.OK
}
