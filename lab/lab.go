// Package lab does what the lines of a script say, and reports on it.
package lab

import (
	"slices"
	"strconv"
	"strings"

	"rook/api"
	"rook/brief"
	"rook/count"
	"rook/game"
	"rook/gather"
	"rook/memory"
	"rook/moves"
	"rook/notation"
	"rook/position"
	"rook/ways"
)

// atFirst is the position that a script begins with.
const atFirst = "rnbqkbnr/pppppppp/8/8/8/8/PPPPPPPP/RNBQKBNR w KQkq - 0 1"

// overWords are in the order of the numbers by which api tells how a game is over.
var overWords = [4]string{"open", "mate", "stalemate", "dead"}

type lab struct {
	position      api.Position
	letters, sets count.Counter
	report        []string
}

// Run is the report on a script. The memory is for its counts.
func Run(m memory.Memory, script string) []string {
	p, _ := notation.Read(atFirst)
	l := lab{position: p, letters: counter(api.Letters, m), sets: counter(api.Sets, m)}
	number := 0
	for line := range strings.SplitSeq(script, "\n") {
		number++
		if line != "" && !l.do(line) {
			l.tell("error " + strconv.Itoa(number))
		}
	}
	return l.report
}

func counter(number int, m memory.Memory) count.Counter {
	w, _ := ways.Of(number)
	return count.By(w, number, m)
}

func (l *lab) tell(line string) {
	l.report = append(l.report, line)
}

// do does what a line says. Where it answers false, and so with the commands below, nothing was told or changed.
func (l *lab) do(line string) bool {
	command, text, hasText := strings.Cut(line, " ")
	if !hasText {
		return l.doAlone(command)
	}
	switch command {
	case "fen":
		return l.fen(text)
	case "move":
		return l.move(text)
	case "short":
		return l.short(text)
	case "perft":
		return l.toDepth(text, 0, l.perft)
	case "divide":
		return l.toDepth(text, 1, l.divide)
	case "compare":
		return l.toDepth(text, 0, l.compare)
	case "epd":
		return l.epd(text)
	}
	return false
}

func (l *lab) doAlone(command string) bool {
	switch command {
	case "moves":
		l.moves()
		return true
	case "look":
		l.look()
		return true
	}
	return false
}

func (l *lab) moves() {
	texts := game.Texts(ways.Quick(), l.position)
	if len(texts) == 0 {
		texts = []string{"none"}
	}
	l.tell(strings.Join(texts, " "))
}

func (l *lab) look() {
	state := game.Look(ways.Quick(), l.position)
	text := overWords[state.Over]
	if state.Check {
		text += " check"
	}
	l.tell(text)
}

func (l *lab) fen(text string) bool {
	p, ok := readPosition(text)
	if !ok {
		return false
	}
	l.position = p
	l.tell("ok")
	return true
}

func (l *lab) move(text string) bool {
	m, ok := moves.Read(text)
	return ok && game.IsLegal(ways.Quick(), l.position, m) && l.play(m)
}

func (l *lab) short(text string) bool {
	m, ok := brief.Read(ways.Quick(), l.position, text)
	return ok && l.play(m)
}

func (l *lab) play(m moves.Move) bool {
	l.position = position.After(l.position, m)
	l.tell("ok " + notation.Write(l.position))
	return true
}

func (l *lab) toDepth(text string, least int, do func(depth int) bool) bool {
	depth, ok := readDepth(text, least)
	return ok && do(depth)
}

func (l *lab) perft(depth int) bool {
	l.tell(decimal(l.sets.Paths(l.position, depth)))
	return true
}

func (l *lab) divide(depth int) bool {
	list := l.sets.Divide(l.position, depth)
	for _, c := range list {
		l.tell(c.Move + " " + decimal(c.Paths))
	}
	sum := gather.Sum(slices.Values(list), func(c api.Count) uint64 { return c.Paths })
	l.tell("sum " + decimal(sum))
	return true
}

// compare has no word for ways that count otherwise, as they never do.
func (l *lab) compare(depth int) bool {
	paths := l.letters.Paths(l.position, depth)
	if l.sets.Paths(l.position, depth) != paths {
		return false
	}
	l.tell("same " + decimal(paths))
	return true
}

func (l *lab) epd(text string) bool {
	r, ok := readRecord(text)
	if !ok {
		return false
	}
	for _, t := range r.told {
		if paths := l.sets.Paths(r.position, t.depth); paths != t.paths {
			l.tell("fail D" + strconv.Itoa(t.depth) + " " + decimal(paths))
			return true
		}
	}
	l.tell("pass")
	return true
}

func decimal(n uint64) string { return strconv.FormatUint(n, 10) }
