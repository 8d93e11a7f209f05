package rook_test

import (
	"regexp"
	"strconv"
	"strings"

	"rook/api"
)

// What stands here says the document's words again as plainly as can be, by walking and counting, so that the program can be held against it.

var plainForm = regexp.MustCompile(`\A([1-8PNBRQKpnbrqk]+(?:/[1-8PNBRQKpnbrqk]+){7}) ([wb]) (-|K?Q?k?q?) (-|[a-h][1-8]) (0|[1-9][0-9]{0,4}) (0|[1-9][0-9]{0,4})\z`)

var plainDigits = regexp.MustCompile(`[1-8][1-8]`)

// plainParse answers as Parse should.
func plainParse(fen string) (api.Position, api.Errno) {
	words := plainForm.FindStringSubmatch(fen)
	if words == nil || words[3] == "" || plainDigits.MatchString(words[1]) {
		return api.Position{}, api.ErrForm
	}
	p := api.Position{White: words[2] == "w", Behind: -1}
	for i, rank := range strings.Split(words[1], "/") {
		for n := 1; n <= 8; n++ {
			rank = strings.ReplaceAll(rank, strconv.Itoa(n), strings.Repeat(".", n))
		}
		if len(rank) != 8 {
			return api.Position{}, api.ErrForm
		}
		copy(p.Board[8*(7-i):], rank)
	}
	for i, letter := range []string{"K", "Q", "k", "q"} {
		p.Castle[i] = strings.Contains(words[3], letter)
	}
	if words[4] != "-" {
		p.Behind = int(words[4][0]-'a') + 8*int(words[4][1]-'1')
	}
	p.Half, _ = strconv.Atoi(words[5])
	p.Full, _ = strconv.Atoi(words[6])
	if p.Half > 65535 || p.Full > 65535 {
		return api.Position{}, api.ErrForm
	}
	if !plainCanBe(p) {
		return api.Position{}, api.ErrPosition
	}
	return p, api.OK
}

func plainCanBe(p api.Position) bool {
	squares := string(p.Board[:])
	if strings.Trim(squares, ".PNBRQKpnbrqk") != "" || strings.ContainsAny(squares[:8]+squares[56:], "Pp") {
		return false
	}
	white, black := 0, 0
	for _, letter := range p.Board {
		switch {
		case letter >= 'A' && letter <= 'Z':
			white++
		case letter >= 'a' && letter <= 'z':
			black++
		}
	}
	if white > 16 || black > 16 || strings.Count(squares, "K") != 1 || strings.Count(squares, "k") != 1 {
		return false
	}
	if p.Half < 0 || p.Half > 65535 || p.Full < 1 || p.Full > 65535 || !plainBehind(p) || !plainCastle(p) {
		return false
	}
	king := strings.IndexByte(squares, 'K')
	if p.White {
		king = strings.IndexByte(squares, 'k')
	}
	return !plainAttacked(p.Board, king, p.White)
}

func plainCastle(p api.Position) bool {
	b := p.Board
	return !(p.Castle[0] && (b[4] != 'K' || b[7] != 'R') ||
		p.Castle[1] && (b[4] != 'K' || b[0] != 'R') ||
		p.Castle[2] && (b[60] != 'k' || b[63] != 'r') ||
		p.Castle[3] && (b[60] != 'k' || b[56] != 'r'))
}

func plainBehind(p api.Position) bool {
	if p.Behind == -1 {
		return true
	}
	if p.Behind < 0 || p.Behind > 63 || p.Board[p.Behind] != '.' {
		return false
	}
	if p.White {
		return p.Behind/8 == 5 && p.Board[p.Behind+8] == '.' && p.Board[p.Behind-8] == 'p'
	}
	return p.Behind/8 == 2 && p.Board[p.Behind-8] == '.' && p.Board[p.Behind+8] == 'P'
}

func plainAttacked(squares [64]byte, square int, byWhite bool) bool {
	kinds := map[byte]int{'P': 1, 'N': 3, 'B': 4, 'R': 5, 'Q': 6, 'K': 7}
	if !byWhite {
		kinds = map[byte]int{'p': 2, 'n': 3, 'b': 4, 'r': 5, 'q': 6, 'k': 7}
	}
	var taken uint64
	for i, letter := range squares {
		if letter != '.' {
			taken |= 1 << i
		}
	}
	for i, letter := range squares {
		if kind, ok := kinds[letter]; ok && plainReach(kind, i, taken)>>square&1 == 1 {
			return true
		}
	}
	return false
}

// plainReach walks from the square, step by step.
func plainReach(kind int, square int, taken uint64) uint64 {
	var reached uint64
	for files := -2; files <= 2; files++ {
		for ranks := -2; ranks <= 2; ranks++ {
			reached |= plainWalk(square, files, ranks, plainSteps(kind, files, ranks), taken)
		}
	}
	return reached
}

// plainSteps: how often a piece may go so many files and ranks.
func plainSteps(kind, files, ranks int) int {
	size := files*files + ranks*ranks
	may := map[int]bool{
		api.WhitePawn: size == 2 && ranks == 1,
		api.BlackPawn: size == 2 && ranks == -1,
		api.Knight:    size == 5,
		api.Bishop:    size == 2,
		api.Rook:      size == 1,
		api.Queen:     size == 1 || size == 2,
		api.King:      size == 1 || size == 2,
	}
	switch {
	case !may[kind]:
		return 0
	case kind == api.Bishop || kind == api.Rook || kind == api.Queen:
		return 7
	}
	return 1
}

func plainWalk(square, files, ranks, steps int, taken uint64) uint64 {
	var reached uint64
	file, rank := square%8, square/8
	for range steps {
		file, rank = file+files, rank+ranks
		if file < 0 || file > 7 || rank < 0 || rank > 7 {
			break
		}
		here := uint64(1) << (8*rank + file)
		reached |= here
		if taken&here != 0 {
			break
		}
	}
	return reached
}
