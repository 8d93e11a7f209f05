package rook_test

import (
	"math/rand"
	"regexp"
	"slices"
	"strings"
	"testing"

	"rook/api"
	"rook/rook"
)

var bothWays = []int{api.Letters, api.Sets}

// dealt is a position that can be, in which castlings and pawns that have just made two steps are not rare.
func dealt(source *rand.Rand) api.Position {
	for {
		p := scattered(source)
		p.Behind = -1
		if source.Intn(2) == 0 {
			setHomes(source, &p)
		}
		if source.Intn(2) == 0 {
			setBehind(source, &p)
		}
		if plainCanBe(p) {
			return p
		}
	}
}

// setHomes brings kings and rooks home, and clears some of what is between them.
func setHomes(source *rand.Rand, p *api.Position) {
	for i, letter := range p.Board {
		if letter == 'K' || letter == 'k' || (i < 8 || i > 55) && source.Intn(2) == 0 {
			p.Board[i] = '.'
		}
	}
	p.Board[0], p.Board[4], p.Board[7] = 'R', 'K', 'R'
	p.Board[56], p.Board[60], p.Board[63] = 'r', 'k', 'r'
	for i := range p.Castle {
		p.Castle[i] = source.Intn(4) > 0
	}
}

// setBehind puts a pawn of the other side behind its two steps, and one beside it that may take it.
func setBehind(source *rand.Rand, p *api.Position) {
	file := source.Intn(8)
	beside := min(max(file+1-2*source.Intn(2), 0), 7)
	if p.White {
		p.Behind = 40 + file
		p.Board[32+beside], p.Board[32+file], p.Board[40+file], p.Board[48+file] = 'P', 'p', '.', '.'
	} else {
		p.Behind = 16 + file
		p.Board[24+beside], p.Board[24+file], p.Board[16+file], p.Board[8+file] = 'p', 'P', '.', '.'
	}
}

// checkPosition holds what Moves, Look and Play answer of a position against the words.
func checkPosition(t *testing.T, p api.Position) []string {
	t.Helper()
	fen, e := rook.Format(p)
	if e != api.OK {
		t.Fatalf("Format(%+v): %d", p, e)
	}
	want := plainMoves(p)
	for _, way := range bothWays {
		if got, e := rook.Moves(fen, way); !slices.Equal(got, want) || e != api.OK {
			t.Fatalf("P5: Moves(%q, %d) = %q, %d, want %q", fen, way, got, e, want)
		}
	}
	if got, e := rook.Look(fen); got != plainLook(p) || e != api.OK {
		t.Fatalf("P7: Look(%q) = %+v, %d, want %+v", fen, got, e, plainLook(p))
	}
	for _, move := range want {
		after := plainAfter(p, move)
		got, e := rook.Play(fen, move)
		if q, f := rook.Parse(got); q != after || e != api.OK || f != api.OK {
			t.Fatalf("P6, P14: Play(%q, %q) = %q, %d, which is %+v, %d, want %+v", fen, move, got, e, q, f, after)
		}
	}
	return want
}

// seen counts what a test should not miss.
type seen struct {
	castlings, passings, turns, noMoves, checks int
}

func (s *seen) look(p api.Position, texts []string) {
	for _, text := range texts {
		man := p.Board[plainSquare(text)]
		king, pawn := man == 'K' || man == 'k', man == 'P' || man == 'p'
		switch {
		case king && text[0] == 'e' && (text[2] == 'g' || text[2] == 'c'):
			s.castlings++
		case pawn && plainSquare(text[2:]) == p.Behind:
			s.passings++
		case len(text) == 5:
			s.turns++
		}
	}
	if len(texts) == 0 {
		s.noMoves++
	}
	if plainCheck(p, p.White) {
		s.checks++
	}
}

func (s *seen) enough(t *testing.T, least int) {
	t.Helper()
	if min(s.castlings, s.passings, s.turns, s.noMoves, s.checks) < least {
		t.Errorf("too little was seen: %+v", *s)
	}
}

func TestP5P6P7DealtPositions(t *testing.T) {
	source := rand.New(rand.NewSource(4))
	var s seen
	for range 2500 {
		p := dealt(source)
		s.look(p, checkPosition(t, p))
	}
	s.enough(t, 20)
}

func TestP5P6P7DrawnGames(t *testing.T) {
	source := rand.New(rand.NewSource(5))
	var s seen
	for _, text := range goodTexts {
		for range 3 {
			p, _ := rook.Parse(text)
			for range 60 {
				texts := checkPosition(t, p)
				s.look(p, texts)
				if len(texts) == 0 {
					break
				}
				p = plainAfter(p, texts[source.Intn(len(texts))])
			}
		}
	}
	s.enough(t, 1)
}

func TestP5AtFirst(t *testing.T) {
	for _, way := range bothWays {
		l, e := rook.Moves(atFirst, way)
		if len(l) != 20 || l[0] != "a2a3" || l[19] != "h2h4" || e != api.OK {
			t.Errorf("P5: way %d at first: %q, %d", way, l, e)
		}
	}
}

// count counts how games may go on, by texts alone.
func count(t *testing.T, fen string, depth, way int) int {
	list, e := rook.Moves(fen, way)
	if e != api.OK {
		t.Fatalf("P5: Moves(%q, %d): %d", fen, way, e)
	}
	if depth == 1 {
		return len(list)
	}
	sum := 0
	for _, move := range list {
		after, e := rook.Play(fen, move)
		if e != api.OK {
			t.Fatalf("P6: Play(%q, %q): %d", fen, move, e)
		}
		sum += count(t, after, depth-1, way)
	}
	return sum
}

// knownCounts are those that others have found for these positions, to the depths 1 to 3.
var knownCounts = []struct {
	fen  string
	want [3]int
}{
	{atFirst, [3]int{20, 400, 8902}},
	{"r3k2r/p1ppqpb1/bn2pnp1/3PN3/1p2P3/2N2Q1p/PPPBBPPP/R3K2R w KQkq - 0 1", [3]int{48, 2039, 97862}},
	{"8/2p5/3p4/KP5r/1R3p1k/8/4P1P1/8 w - - 0 1", [3]int{14, 191, 2812}},
	{"r3k2r/Pppp1ppp/1b3nbN/nP6/BBP1P3/q4N2/Pp1P2PP/R2Q1RK1 w kq - 0 1", [3]int{6, 264, 9467}},
	{"rnbq1k1r/pp1Pbppp/2p5/8/2B5/8/PPP1NnPP/RNBQK2R w KQ - 1 8", [3]int{44, 1486, 62379}},
	{"r4rk1/1pp1qppp/p1np1n2/2b1p1B1/2B1P1b1/P1NP1N2/1PP1QPPP/R4RK1 w - - 0 10", [3]int{46, 2079, 89890}},
}

func TestP5P6CountsThatAreKnown(t *testing.T) {
	for _, c := range knownCounts {
		for i, want := range c.want {
			for _, way := range bothWays {
				if got := count(t, c.fen, i+1, way); got != want {
					t.Errorf("P5, P6: %q to depth %d, way %d: %d, want %d", c.fen, i+1, way, got, want)
				}
			}
		}
	}
}

func TestP5Errors(t *testing.T) {
	for _, way := range wildNumbers {
		if way == api.Letters || way == api.Sets {
			continue
		}
		for fen, want := range map[string]api.Errno{"": api.ErrForm, "8/8/8/8/8/8/8/8 w - - 0 1": api.ErrPosition, atFirst: api.ErrWay} {
			if l, e := rook.Moves(fen, way); len(l) != 0 || e != want {
				t.Errorf("P5: Moves(%q, %d) = %q, %d, want %d", fen, way, l, e, want)
			}
		}
	}
}

func TestP2ListsOfMovesAreNewMemory(t *testing.T) {
	for _, way := range bothWays {
		a, _ := rook.Moves(atFirst, way)
		want := slices.Clone(a)
		b, _ := rook.Moves(atFirst, way)
		a = a[:cap(a)]
		for i := range a {
			a[i] = "mine"
		}
		c, _ := rook.Moves(atFirst, way)
		if !slices.Equal(b, want) || !slices.Equal(c, want) {
			t.Errorf("P2: what was done to a list shows in others: %q, %q", b, c)
		}
	}
}

// Every text of the form but those of the legal moves is refused.
func TestP6EveryTextOfTheForm(t *testing.T) {
	for _, fen := range []string{
		atFirst,
		"r3k2r/p1ppqpb1/bn2pnp1/3PN3/1p2P3/2N2Q1p/PPPBBPPP/R3K2R w KQkq - 0 1",
		"r3k2r/8/8/8/8/8/8/R3K2R b Qk - 10 99",
		"r3k3/1P5p/8/3pP3/8/8/8/4K3 w q d6 65535 65535",
		"4k3/8/8/8/3Pp3/8/p6P/1R2K3 b - d3 7 65535",
		"7k/5Q2/6K1/8/8/8/8/8 b - - 0 1",
	} {
		p, _ := rook.Parse(fen)
		legal := plainMoves(p)
		for pair := range 64 * 64 {
			for _, turn := range []string{"", "q", "r", "b", "n"} {
				move := plainName(pair/64) + plainName(pair%64) + turn
				want, wantE := "", api.ErrIllegal
				if slices.Contains(legal, move) {
					want, wantE = rook.Format(plainAfter(p, move))
				}
				if got, e := rook.Play(fen, move); got != want || e != wantE {
					t.Fatalf("P6: Play(%q, %q) = %q, %d, want %q, %d", fen, move, got, e, want, wantE)
				}
			}
		}
	}
}

func TestP6Form(t *testing.T) {
	form := regexp.MustCompile(`\A[a-h][1-8][a-h][1-8][qrbn]?\z`)
	check := func(move string) {
		t.Helper()
		_, e := rook.Play(atFirst, move)
		if (e != api.ErrForm) != form.MatchString(move) {
			t.Errorf("P6: Play(first, %q): %d", move, e)
		}
		if s, e := rook.Play("8/8/8/8/8/8/8/8 w - - 0 1", move); s != "" || e != api.ErrPosition {
			t.Errorf("P6: Play of no position, %q: %q, %d", move, s, e)
		}
	}
	for _, text := range []string{"", "e2", "e2e4", "a7a8q", "O-O", "0000", "Nf3", "e2-e4", "e2 e4", "e7e8=q", "e2e4\n", "e2e4\x00", "é2e4", "e2e4é", strings.Repeat("e2e4", 1<<18)} {
		check(text)
	}
	for _, text := range []string{"e2e4", "h8a1n"} {
		for i := range text {
			check(text[:i] + text[i+1:])
			for b := range 256 {
				check(text[:i] + string([]byte{byte(b)}) + text[i+1:])
				check(text[:i] + string([]byte{byte(b)}) + text[i:])
				check(text + string([]byte{byte(b)}))
			}
		}
	}
}

func TestP7Over(t *testing.T) {
	for _, c := range []struct {
		fen  string
		want api.State
	}{
		{atFirst, api.State{Moves: 20}},
		{"7k/6Q1/6K1/8/8/8/8/8 b - - 0 1", api.State{Check: true, Over: api.Mate}},
		{"7k/5Q2/6K1/8/8/8/8/8 b - - 0 1", api.State{Over: api.Stalemate}},
		{"8/8/8/8/8/6k1/5q2/7K w - - 0 1", api.State{Over: api.Stalemate}},
		{"k7/8/1K6/4B3/8/8/8/8 b - - 0 1", api.State{Over: api.Stalemate}}, // not dead, though too few men are left
		{"k7/8/KB6/8/8/8/8/8 b - - 0 1", api.State{Moves: 1, Over: api.Dead}},
		{"k7/8/KN6/8/8/8/8/8 b - - 0 1", api.State{Check: true, Moves: 1, Over: api.Dead}},
		{"k7/2K5/8/3B4/8/8/8/8 b - - 0 1", api.State{Check: true, Moves: 1, Over: api.Dead}},
		{"k7/2K5/1N6/8/8/8/8/8 b - - 0 1", api.State{Check: true, Moves: 1, Over: api.Dead}},
		{"kB6/8/1K6/8/8/8/8/8 b - - 0 1", api.State{Moves: 1, Over: api.Dead}},
		{"4k3/8/8/8/8/8/8/4K3 b - - 0 1", api.State{Moves: 5, Over: api.Dead}},
		{"4k2n/8/8/8/8/8/8/4K3 w - - 0 1", api.State{Moves: 5, Over: api.Dead}},
		{"4k2n/8/8/8/8/8/8/N3K3 w - - 0 1", api.State{Moves: 7}},
		{"4k3/8/8/8/8/8/8/4K1NN w - - 0 1", api.State{Moves: 10}},
		{"4k3/8/8/8/8/8/8/4K1BB w - - 0 1", api.State{Moves: 19}},
		{"4k3/8/8/8/8/8/8/4K2R w - - 0 1", api.State{Moves: 14}},
		{"4k3/8/8/8/8/8/p7/4K3 w - - 0 1", api.State{Moves: 5}},
		{"4k3/8/8/8/8/8/8/3qK3 w - - 0 1", api.State{Check: true, Moves: 2}},
	} {
		if got, e := rook.Look(c.fen); got != c.want || e != api.OK {
			t.Errorf("P7: Look(%q) = %+v, %d, want %+v", c.fen, got, e, c.want)
		}
	}
}

func TestP7Errors(t *testing.T) {
	for fen, want := range map[string]api.Errno{"": api.ErrForm, "8/8/8/8/8/8/8/8 w - - 0 1": api.ErrPosition} {
		if s, e := rook.Look(fen); s != (api.State{}) || e != want {
			t.Errorf("P7: Look(%q) = %+v, %d, want %d", fen, s, e, want)
		}
	}
}

// turnedOver is the position with the ranks the other way round and the sides changed.
func turnedOver(p api.Position) api.Position {
	q := p
	for i, letter := range p.Board {
		if letter != '.' {
			letter ^= 'a' ^ 'A'
		}
		q.Board[i^56] = letter
	}
	q.White = !p.White
	q.Castle = [4]bool{p.Castle[2], p.Castle[3], p.Castle[0], p.Castle[1]}
	if p.Behind >= 0 {
		q.Behind = p.Behind ^ 56
	}
	return q
}

func TestP14TurnedOver(t *testing.T) {
	source := rand.New(rand.NewSource(6))
	over := strings.NewReplacer("1", "8", "2", "7", "3", "6", "4", "5", "5", "4", "6", "3", "7", "2", "8", "1")
	for range 5000 {
		p := dealt(source)
		fen, _ := rook.Format(p)
		other, e := rook.Format(turnedOver(p))
		if e != api.OK {
			t.Fatalf("P14: %q turned over: %d", fen, e)
		}
		for _, way := range bothWays {
			want, _ := rook.Moves(fen, way)
			for i, move := range want {
				want[i] = over.Replace(move)
			}
			slices.Sort(want)
			if got, e := rook.Moves(other, way); !slices.Equal(got, want) || e != api.OK {
				t.Fatalf("P14: Moves(%q, %d) = %q, %d, want those of %q turned over, %q", other, way, got, e, fen, want)
			}
		}
	}
}
