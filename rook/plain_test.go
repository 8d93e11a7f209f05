package rook_test

import (
	"regexp"
	"slices"
	"strconv"
	"strings"

	"rook/api"
)

// What stands here says the document's words again as plainly as can be, by walking and counting, so that the program can be held against it.

var plainForm = regexp.MustCompile(`\A([1-8PNBRQKpnbrqk]+(?:/[1-8PNBRQKpnbrqk]+){7}) ([wb]) (-|K?Q?k?q?) (-|[a-h][1-8]) (0|[1-9][0-9]{0,4}) (0|[1-9][0-9]{0,4})\z`)

var plainDigits = regexp.MustCompile(`[1-8][1-8]`)

// plainParse answers as Parse should.
func plainParse(fen string) (api.Position, api.Errno) {
	words := plainForm.FindStringSubmatch(fen)
	if words == nil || words[3] == "" || plainDigits.MatchString(words[1]) {
		return api.Position{}, api.ErrForm
	}
	p := api.Position{White: words[2] == "w", Behind: -1}
	for i, rank := range strings.Split(words[1], "/") {
		for n := 1; n <= 8; n++ {
			rank = strings.ReplaceAll(rank, strconv.Itoa(n), strings.Repeat(".", n))
		}
		if len(rank) != 8 {
			return api.Position{}, api.ErrForm
		}
		copy(p.Board[8*(7-i):], rank)
	}
	for i, letter := range []string{"K", "Q", "k", "q"} {
		p.Castle[i] = strings.Contains(words[3], letter)
	}
	if words[4] != "-" {
		p.Behind = int(words[4][0]-'a') + 8*int(words[4][1]-'1')
	}
	p.Half, _ = strconv.Atoi(words[5])
	p.Full, _ = strconv.Atoi(words[6])
	if p.Half > 65535 || p.Full > 65535 {
		return api.Position{}, api.ErrForm
	}
	if !plainCanBe(p) {
		return api.Position{}, api.ErrPosition
	}
	return p, api.OK
}

func plainCanBe(p api.Position) bool {
	squares := string(p.Board[:])
	if strings.Trim(squares, ".PNBRQKpnbrqk") != "" || strings.ContainsAny(squares[:8]+squares[56:], "Pp") {
		return false
	}
	white, black := 0, 0
	for _, letter := range p.Board {
		switch {
		case letter >= 'A' && letter <= 'Z':
			white++
		case letter >= 'a' && letter <= 'z':
			black++
		}
	}
	if white > 16 || black > 16 || strings.Count(squares, "K") != 1 || strings.Count(squares, "k") != 1 {
		return false
	}
	if p.Half < 0 || p.Half > 65535 || p.Full < 1 || p.Full > 65535 || !plainBehind(p) || !plainCastle(p) {
		return false
	}
	king := strings.IndexByte(squares, 'K')
	if p.White {
		king = strings.IndexByte(squares, 'k')
	}
	return !plainAttacked(p.Board, king, p.White)
}

func plainCastle(p api.Position) bool {
	b := p.Board
	return !(p.Castle[0] && (b[4] != 'K' || b[7] != 'R') ||
		p.Castle[1] && (b[4] != 'K' || b[0] != 'R') ||
		p.Castle[2] && (b[60] != 'k' || b[63] != 'r') ||
		p.Castle[3] && (b[60] != 'k' || b[56] != 'r'))
}

func plainBehind(p api.Position) bool {
	if p.Behind == -1 {
		return true
	}
	if p.Behind < 0 || p.Behind > 63 || p.Board[p.Behind] != '.' {
		return false
	}
	if p.White {
		return p.Behind/8 == 5 && p.Board[p.Behind+8] == '.' && p.Board[p.Behind-8] == 'p'
	}
	return p.Behind/8 == 2 && p.Board[p.Behind-8] == '.' && p.Board[p.Behind+8] == 'P'
}

var plainKinds = map[byte]int{'P': 1, 'p': 2, 'N': 3, 'n': 3, 'B': 4, 'b': 4, 'R': 5, 'r': 5, 'Q': 6, 'q': 6, 'K': 7, 'k': 7}

func plainIsMan(letter byte, white bool) bool {
	return letter != '.' && white == (letter < 'a')
}

func plainTaken(squares [64]byte) uint64 {
	var taken uint64
	for i, letter := range squares {
		if letter != '.' {
			taken |= 1 << i
		}
	}
	return taken
}

func plainAttacked(squares [64]byte, square int, byWhite bool) bool {
	taken := plainTaken(squares)
	for i, letter := range squares {
		if plainIsMan(letter, byWhite) && plainReach(plainKinds[letter], i, taken)>>square&1 == 1 {
			return true
		}
	}
	return false
}

// plainReach walks from the square, step by step.
func plainReach(kind int, square int, taken uint64) uint64 {
	var reached uint64
	for files := -2; files <= 2; files++ {
		for ranks := -2; ranks <= 2; ranks++ {
			reached |= plainWalk(square, files, ranks, plainSteps(kind, files, ranks), taken)
		}
	}
	return reached
}

// plainSteps: how often a piece may go so many files and ranks.
func plainSteps(kind, files, ranks int) int {
	size := files*files + ranks*ranks
	steps := [8][6]int{
		api.WhitePawn: {2: max(ranks, 0)},
		api.BlackPawn: {2: max(-ranks, 0)},
		api.Knight:    {5: 1},
		api.Bishop:    {2: 7},
		api.Rook:      {1: 7},
		api.Queen:     {1: 7, 2: 7},
		api.King:      {1: 1, 2: 1},
	}
	if size > 5 {
		return 0
	}
	return steps[kind][size]
}

func plainWalk(square, files, ranks, steps int, taken uint64) uint64 {
	var reached uint64
	file, rank := square%8, square/8
	for range steps {
		file, rank = file+files, rank+ranks
		if file < 0 || file > 7 || rank < 0 || rank > 7 {
			break
		}
		here := uint64(1) << (8*rank + file)
		reached |= here
		if taken&here != 0 {
			break
		}
	}
	return reached
}

func plainSquare(name string) int { return int(name[0]-'a') + 8*int(name[1]-'1') }

func plainName(square int) string { return string("abcdefgh"[square%8]) + string("12345678"[square/8]) }

// plainMoves: the texts of the legal moves: of all pairs of squares those between which the words let a man move.
func plainMoves(p api.Position) []string {
	var texts []string
	for from, letter := range p.Board {
		if !plainIsMan(letter, p.White) {
			continue
		}
		reached := plainReach(plainKinds[letter], from, plainTaken(p.Board))
		for to := range 64 {
			if plainMayMove(p, from, to, reached>>to&1 == 1) {
				texts = append(texts, plainLegal(p, plainName(from)+plainName(to))...)
			}
		}
	}
	slices.Sort(texts)
	return texts
}

func plainMayMove(p api.Position, from, to int, attacks bool) bool {
	switch p.Board[from] {
	case 'P':
		up := func(ranks int) bool { return to == from+8*ranks && p.Board[to] == '.' }
		return attacks && (to == p.Behind || plainIsMan(p.Board[to], !p.White)) ||
			up(1) || up(2) && from/8 == 1 && p.Board[from+8] == '.'
	case 'p':
		down := func(ranks int) bool { return to == from-8*ranks && p.Board[to] == '.' }
		return attacks && (to == p.Behind || plainIsMan(p.Board[to], !p.White)) ||
			down(1) || down(2) && from/8 == 6 && p.Board[from-8] == '.'
	case 'K', 'k':
		return attacks && !plainIsMan(p.Board[to], p.White) || plainCastles(p, from, to)
	}
	return attacks && !plainIsMan(p.Board[to], p.White)
}

func plainCastles(p api.Position, from, to int) bool {
	for i, c := range []struct{ king, to, empty, safe string }{
		{"e1", "g1", "f1 g1", "e1 f1 g1"},
		{"e1", "c1", "b1 c1 d1", "e1 d1 c1"},
		{"e8", "g8", "f8 g8", "e8 f8 g8"},
		{"e8", "c8", "b8 c8 d8", "e8 d8 c8"},
	} {
		if !p.Castle[i] || from != plainSquare(c.king) || to != plainSquare(c.to) {
			continue
		}
		for _, name := range strings.Fields(c.empty) {
			if p.Board[plainSquare(name)] != '.' {
				return false
			}
		}
		for _, name := range strings.Fields(c.safe) {
			if plainAttacked(p.Board, plainSquare(name), !p.White) {
				return false
			}
		}
		return true
	}
	return false
}

// plainLegal: the texts of a move from one square to another one: none, if behind it the own king is attacked; four, if a pawn turns.
func plainLegal(p api.Position, text string) []string {
	pawn := strings.ToUpper(string(p.Board[plainSquare(text)])) == "P"
	turns := []string{""}
	if pawn && (text[3] == '1' || text[3] == '8') {
		turns = []string{"b", "n", "q", "r"}
	}
	var texts []string
	for _, turn := range turns {
		if q := plainAfter(p, text+turn); !plainCheck(q, p.White) {
			texts = append(texts, text+turn)
		}
	}
	return texts
}

func plainCheck(p api.Position, white bool) bool {
	king := map[bool]byte{true: 'K', false: 'k'}[white]
	return plainAttacked(p.Board, strings.IndexByte(string(p.Board[:]), king), !white)
}

// plainAfter: the position behind a move.
func plainAfter(p api.Position, text string) api.Position {
	from, to := plainSquare(text), plainSquare(text[2:])
	man := p.Board[from]
	q := p
	q.Board[from], q.Board[to] = '.', man
	if len(text) == 5 {
		q.Board[to] = text[4]
		if p.White {
			q.Board[to] = strings.ToUpper(text[4:])[0]
		}
	}
	q.White, q.Behind = !p.White, -1
	q.Half = min(p.Half+1, 65535)
	if man == 'P' || man == 'p' {
		q.Half = 0
		if to == p.Behind {
			q.Board[plainSquare(text[2:3]+text[1:2])] = '.'
		}
		if d := to - from; d == 16 || d == -16 {
			q.Behind = from + d/2
		}
	}
	if p.Board[to] != '.' {
		q.Half = 0
	}
	if !p.White {
		q.Full = min(p.Full+1, 65535)
	}
	rooks := map[string]string{"Ke1g1": "h1f1", "Ke1c1": "a1d1", "ke8g8": "h8f8", "ke8c8": "a8d8"}
	if rook, ok := rooks[string(man)+text]; ok {
		r, s := plainSquare(rook), plainSquare(rook[2:])
		q.Board[r], q.Board[s] = '.', p.Board[r]
	}
	for i, names := range []string{"e1 h1", "e1 a1", "e8 h8", "e8 a8"} {
		if strings.Contains(names, text[:2]) || strings.Contains(names, text[2:4]) {
			q.Castle[i] = false
		}
	}
	return q
}

// plainLook answers as Look should.
func plainLook(p api.Position) api.State {
	s := api.State{Check: plainCheck(p, p.White), Moves: len(plainMoves(p))}
	men := strings.ReplaceAll(string(p.Board[:]), ".", "")
	rest := strings.NewReplacer("K", "", "k", "").Replace(men)
	switch {
	case s.Moves == 0 && s.Check:
		s.Over = 1
	case s.Moves == 0:
		s.Over = 2
	case rest == "" || len(rest) == 1 && strings.Contains("NnBb", rest):
		s.Over = 3
	}
	return s
}
