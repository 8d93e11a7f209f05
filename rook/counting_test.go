package rook_test

import (
	"math/rand"
	"reflect"
	"slices"
	"strings"
	"sync"
	"testing"

	"rook/api"
	"rook/rook"
)

func plainNumber(seed, n uint64) uint64 {
	x := seed + n*0x9e3779b97f4a7c15
	x ^= x >> 30
	x *= 0xbf58476d1ce4e5b9
	x ^= x >> 27
	x *= 0x94d049bb133111eb
	x ^= x >> 31
	return x
}

// plainKey answers as Key should.
func plainKey(p api.Position) uint64 {
	var key uint64
	add := func(n int) { key ^= plainNumber(0, uint64(n)) }
	for place, letter := range []byte("PNBRQKpnbrqk") {
		for square, here := range p.Board {
			if here == letter {
				add(64*place + square + 1)
			}
		}
	}
	for i, n := range []int{769, 770, 771, 772} {
		if p.Castle[i] {
			add(n)
		}
	}
	if !p.White {
		add(773)
	}
	if p.Behind != -1 {
		add(774 + p.Behind%8)
	}
	return key
}

func checkKey(t *testing.T, p api.Position) {
	t.Helper()
	fen, _ := rook.Format(p)
	if got, e := rook.Key(fen); got != plainKey(p) || e != api.OK {
		t.Fatalf("P8: Key(%q) = %#x, %d, want %#x", fen, got, e, plainKey(p))
	}
}

func TestP8Keys(t *testing.T) {
	source := rand.New(rand.NewSource(8))
	for _, text := range goodTexts {
		p, _ := rook.Parse(text)
		checkKey(t, p)
	}
	for range 5000 {
		checkKey(t, dealt(source))
	}
}

// manAt is a position that can be with this man on this square, and otherwise with kings alone.
func manAt(source *rand.Rand, letter byte, square int) api.Position {
	for {
		p := api.Position{White: true, Behind: -1, Full: 1}
		copy(p.Board[:], strings.Repeat(".", 64))
		for _, king := range []byte("Kk") {
			if king != letter {
				p.Board[source.Intn(64)] = king
			}
		}
		p.Board[square] = letter
		if plainCanBe(p) {
			return p
		}
	}
}

// Every number but those of a pawn where none can stand is in the key of one of these.
func TestP8EveryNumber(t *testing.T) {
	source := rand.New(rand.NewSource(7))
	for _, letter := range []byte("PNBRQKpnbrqk") {
		for square := range 64 {
			isPawn, isLast := letter|32 == 'p', square < 8 || square > 55
			if !isPawn || !isLast {
				checkKey(t, manAt(source, letter, square))
			}
		}
	}
	for castlings := range 16 {
		for _, side := range []string{"w", "b"} {
			p, _ := rook.Parse("r3k2r/8/8/pppppppp/PPPPPPPP/8/8/R3K2R " + side + " KQkq - 0 1")
			for i := range p.Castle {
				p.Castle[i] = castlings>>i&1 == 1
			}
			checkKey(t, p)
			for file := range 8 {
				p.Behind = map[bool]int{true: 40, false: 16}[p.White] + file
				checkKey(t, p)
			}
		}
	}
}

func TestP8ClocksAreLeftOut(t *testing.T) {
	a, _ := rook.Key("4k3/8/8/8/8/8/8/R3K2R w KQ - 0 1")
	b, _ := rook.Key("4k3/8/8/8/8/8/8/R3K2R w KQ - 65535 77")
	if a != b || a == 0 {
		t.Errorf("P8: %#x, with other clocks %#x", a, b)
	}
}

func TestP8Errors(t *testing.T) {
	for fen, want := range map[string]api.Errno{"": api.ErrForm, atFirst + "00000": api.ErrForm, "8/8/8/8/8/8/8/8 w - - 0 1": api.ErrPosition} {
		if k, e := rook.Key(fen); k != 0 || e != want {
			t.Errorf("P8: Key(%q) = %#x, %d, want %d", fen, k, e, want)
		}
	}
}

func plainPaths(p api.Position, depth int) uint64 {
	if depth == 0 {
		return 1
	}
	var sum uint64
	for _, move := range plainMoves(p) {
		sum += plainPaths(plainAfter(p, move), depth-1)
	}
	return sum
}

// plainDivide answers as Divide should.
func plainDivide(p api.Position, depth int) []api.Count {
	var list []api.Count
	for _, move := range plainMoves(p) {
		list = append(list, api.Count{Move: move, Paths: plainPaths(plainAfter(p, move), depth-1)})
	}
	return list
}

func TestP9P10DealtPositions(t *testing.T) {
	source := rand.New(rand.NewSource(9))
	cache, _ := rook.New(100)
	for i := range 150 {
		p := dealt(source)
		fen, _ := rook.Format(p)
		for depth := 1; depth <= 2; depth++ {
			want := plainDivide(p, depth)
			var sum uint64
			for _, c := range want {
				sum += c.Paths
			}
			for _, way := range bothWays {
				if got, e := rook.Divide(fen, depth, way); !slices.Equal(got, want) || e != api.OK {
					t.Fatalf("P9: Divide(%q, %d, %d) = %v, %d, want %v", fen, depth, way, got, e, want)
				}
				if got, e := cache.Perft(fen, depth, way); got != sum || e != api.OK {
					t.Fatalf("P10: Perft(%q, %d, %d), the %d-th, = %d, %d, want %d", fen, depth, way, i, got, e, sum)
				}
			}
		}
	}
}

// The paths to depth 3 are those to depth 2 behind each move.
func TestP9DepthByDepth(t *testing.T) {
	for _, fen := range goodTexts {
		for _, way := range bothWays {
			list, e := rook.Divide(fen, 3, way)
			moves, _ := rook.Moves(fen, way)
			if len(list) != len(moves) || e != api.OK {
				t.Fatalf("P9: Divide(%q, 3, %d): %d moves, %d, want %d", fen, way, len(list), e, len(moves))
			}
			for i, c := range list {
				after, _ := rook.Play(fen, moves[i])
				behind, _ := rook.Divide(after, 2, way)
				var sum uint64
				for _, d := range behind {
					sum += d.Paths
				}
				if c != (api.Count{Move: moves[i], Paths: sum}) {
					t.Errorf("P9: Divide(%q, 3, %d): %v, want %s, %d", fen, way, c, moves[i], sum)
				}
			}
		}
	}
}

func TestP9P10CountsThatAreKnown(t *testing.T) {
	cache, _ := rook.New(api.MaxSlots)
	for _, c := range knownCounts {
		for depth := 0; depth <= 3; depth++ {
			want := uint64(1)
			if depth > 0 {
				want = uint64(c.want[depth-1])
			}
			for _, way := range bothWays {
				if got, e := cache.Perft(c.fen, depth, way); got != want || e != api.OK {
					t.Errorf("P10: Perft(%q, %d, %d) = %d, %d, want %d", c.fen, depth, way, got, e, want)
				}
				if depth == 0 {
					continue
				}
				list, e := rook.Divide(c.fen, depth, way)
				var sum uint64
				for _, d := range list {
					sum += d.Paths
				}
				if sum != want || e != api.OK {
					t.Errorf("P9: Divide(%q, %d, %d): %d together, %d, want %d", c.fen, depth, way, sum, e, want)
				}
			}
		}
	}
}

func TestP9P10NoMoves(t *testing.T) {
	for _, fen := range []string{"7k/6Q1/6K1/8/8/8/8/8 b - - 0 1", "7k/5Q2/6K1/8/8/8/8/8 b - - 0 1"} {
		cache, _ := rook.New(3)
		for depth, want := range []uint64{1, 0, 0, 0} {
			for _, way := range bothWays {
				for range 2 {
					if got, e := cache.Perft(fen, depth, way); got != want || e != api.OK {
						t.Errorf("P10: Perft(%q, %d, %d) = %d, %d, want %d", fen, depth, way, got, e, want)
					}
				}
				if list, e := rook.Divide(fen, max(depth, 1), way); len(list) != 0 || e != api.OK {
					t.Errorf("P9: Divide(%q, %d, %d) = %v, %d", fen, max(depth, 1), way, list, e)
				}
			}
		}
	}
}

func TestP9P10Errors(t *testing.T) {
	cache, _ := rook.New(2)
	isWay := func(way int) bool { return way == api.Letters || way == api.Sets }
	for _, depth := range wildNumbers {
		for _, way := range wildNumbers {
			for fen, first := range map[string]api.Errno{"": api.ErrForm, "8/8/8/8/8/8/8/8 w - - 0 1": api.ErrPosition, atFirst: api.OK} {
				want := func(least int) api.Errno {
					switch {
					case first != api.OK:
						return first
					case depth < least || depth > 3:
						return api.ErrDepth
					case !isWay(way):
						return api.ErrWay
					}
					return api.OK
				}
				if n, e := cache.Perft(fen, depth, way); e != want(0) || (e == api.OK) != (n > 0) {
					t.Errorf("P10: Perft(%q, %d, %d) = %d, %d, want %d", fen, depth, way, n, e, want(0))
				}
				if l, e := rook.Divide(fen, depth, way); e != want(1) || (e == api.OK) != (len(l) > 0) {
					t.Errorf("P9: Divide(%q, %d, %d) = %v, %d, want %d", fen, depth, way, l, e, want(1))
				}
			}
		}
	}
}

func TestP2ListsOfCountsAreNewMemory(t *testing.T) {
	for _, way := range bothWays {
		a, _ := rook.Divide(atFirst, 2, way)
		want := slices.Clone(a)
		b, _ := rook.Divide(atFirst, 2, way)
		a = a[:cap(a)]
		for i := range a {
			a[i] = api.Count{Move: "mine", Paths: 1}
		}
		c, _ := rook.Divide(atFirst, 2, way)
		if !slices.Equal(b, want) || !slices.Equal(c, want) {
			t.Errorf("P2: what was done to a list shows in others: %v, %v", b, c)
		}
	}
}

func TestP10New(t *testing.T) {
	for _, slots := range append(wildNumbers, 4095) {
		cache, e := rook.New(slots)
		if slots >= 0 && slots <= 4096 {
			if cache == nil || e != api.OK {
				t.Errorf("P10: New(%d) = %v, %d", slots, cache, e)
			}
		} else if cache != nil || e != api.ErrSlots {
			t.Errorf("P10: New(%d) = %v, %d", slots, cache, e)
		}
	}
}

// question is one that Perft is asked.
type question struct {
	fen        string
	depth, way int
}

// oneKey has pairs of positions that differ and have one key: found by solving for men whose numbers XORed are 0, and dealing these out to the two.
var oneKey = [][2]string{
	{"4r3/P2R1n1P/kPp1p3/8/8/7p/8/bB2K3 w - - 0 1", "3R2n1/4r1b1/k5pp/8/1p3p2/1P3NR1/1r1P3n/3RK3 w - - 0 1"},
	{"4r3/2R5/2R1b2B/2P2K2/4r2P/k1p5/6r1/4Nb1N w - - 0 1", "1N1r2b1/5PN1/Nr6/P3PK2/1p4P1/k2N4/P2Rp3/R1N3R1 w - - 0 1"},
	{"7R/2p3kB/7r/pp1R2P1/P6p/N4rpb/1K2PpB1/8 w - - 0 1", "2B2R2/6k1/8/5r2/1p3pR1/4p3/PK1p4/4R2b b - - 0 1"},
	{"8/3K1B2/8/2kp1n2/2N5/2Rp4/4p3/r2n4 w - - 0 1", "1r1N2b1/1P1K4/P1n1n1b1/1rk1p1RR/5p2/p4P2/Pp6/2b1R2B b - - 0 1"},
}

// questions are of positions that are easily taken for one another, to all depths, by both ways.
func questions() []question {
	fens := []string{
		"r3k2r/8/8/8/8/8/8/R3K2R w KQkq - 0 1",
		"r3k2r/8/8/8/8/8/8/R3K2R w KQkq - 9 9",
		"r3k2r/8/8/8/8/8/8/R3K2R w Qk - 0 1",
		"r3k2r/8/8/8/8/8/8/R3K2R w - - 0 1",
		"r3k2r/8/8/8/8/8/8/R3K2R b - - 0 1",
		"4k3/8/8/3pPp2/8/8/8/4K3 w - d6 0 1",
		"4k3/8/8/3pPp2/8/8/8/4K3 w - f6 0 1",
		"4k3/8/8/3pPp2/8/8/8/4K3 w - - 0 1",
		"4k3/8/8/3pPp2/8/8/8/4K3 b - - 0 1",
		"7k/6Q1/6K1/8/8/8/8/8 b - - 0 1",
	}
	for _, pair := range oneKey {
		fens = append(fens, pair[:]...)
	}
	var all []question
	for _, fen := range fens {
		for depth := range 4 {
			for _, way := range bothWays {
				all = append(all, question{fen, depth, way})
			}
		}
	}
	return all
}

// wantedPaths says, of depth 3 too, what the moves' texts alone say.
func wantedPaths(t *testing.T, q question) uint64 {
	if q.depth == 0 {
		return 1
	}
	return uint64(count(t, q.fen, q.depth, api.Sets))
}

func TestP10WhatWasAskedBeforeDoesNotShow(t *testing.T) {
	source := rand.New(rand.NewSource(10))
	all := questions()
	want := map[question]uint64{}
	for _, q := range all {
		want[q] = wantedPaths(t, q)
	}
	for _, slots := range []int{0, 1, 3, 100, 4096} {
		cache, _ := rook.New(slots)
		for range 2 {
			for _, i := range source.Perm(len(all)) {
				q := all[i]
				if got, e := cache.Perft(q.fen, q.depth, q.way); got != want[q] || e != api.OK {
					t.Fatalf("P10: Perft(%q, %d, %d) of %d slots = %d, %d, want %d", q.fen, q.depth, q.way, slots, got, e, want[q])
				}
			}
		}
	}
}

func TestP10TwoPositionsWithOneKey(t *testing.T) {
	for _, pair := range oneKey {
		a, _ := rook.Key(pair[0])
		b, _ := rook.Key(pair[1])
		if a != b {
			t.Fatalf("P8: %q and %q have the keys %#x and %#x", pair[0], pair[1], a, b)
		}
		for _, slots := range []int{1, 2, 4096} {
			for turn := range 2 {
				cache, _ := rook.New(slots)
				for i := range 4 {
					fen := pair[(turn+i)%2]
					for depth := range 3 {
						want := wantedPaths(t, question{fen, depth, api.Sets})
						if got, e := cache.Perft(fen, depth, api.Letters); got != want || e != api.OK {
							t.Errorf("P10: Perft(%q, %d) behind one with its key = %d, %d, want %d", fen, depth, got, e, want)
						}
					}
				}
			}
		}
	}
}

func TestP10OneCacheAskedAtTheSameTime(t *testing.T) {
	cache, _ := rook.New(5)
	all := questions()
	var wait sync.WaitGroup
	for turn := range 4 {
		wait.Go(func() {
			for i := range all {
				q := all[(i*7+turn*31)%len(all)]
				other, _ := rook.New(0)
				want, _ := other.Perft(q.fen, q.depth, q.way)
				if got, e := cache.Perft(q.fen, q.depth, q.way); got != want || e != api.OK {
					t.Errorf("P10: Perft(%q, %d, %d) = %d, %d, want %d", q.fen, q.depth, q.way, got, e, want)
				}
			}
		})
	}
	wait.Wait()
}

// plainMatter: the squares of each line but its last.
func plainMatter(kind, square int) []int {
	var all []int
	for files := -1; files <= 1; files++ {
		for ranks := -1; ranks <= 1; ranks++ {
			var line []int
			for i := 1; i <= plainSteps(kind, files, ranks); i++ {
				file, rank := square%8+i*files, square/8+i*ranks
				if file >= 0 && file < 8 && rank >= 0 && rank < 8 {
					line = append(line, 8*rank+file)
				}
			}
			if len(line) > 0 {
				all = append(all, line[:len(line)-1]...)
			}
		}
	}
	return all
}

// plainViews: each set of squares that matter, and what is reached with it.
func plainViews(kind, square int) map[uint64]uint64 {
	squares := plainMatter(kind, square)
	views := map[uint64]uint64{}
	for chosen := range 1 << len(squares) {
		var set uint64
		for i, s := range squares {
			if chosen>>i&1 == 1 {
				set |= 1 << s
			}
		}
		views[set] = plainReach(kind, square, set)
	}
	return views
}

func plainMagic(views map[uint64]uint64, factor uint64, bits int) bool {
	reached := map[uint64]uint64{}
	for set, reach := range views {
		number := set * factor >> (64 - bits)
		if other, ok := reached[number]; ok && other != reach {
			return false
		}
		reached[number] = reach
	}
	return true
}

func plainFactor(seed uint64, k int) uint64 {
	n := uint64(k)
	return plainNumber(seed, 3*n-2) & plainNumber(seed, 3*n-1) & plainNumber(seed, 3*n)
}

func TestP11SquaresThatMatter(t *testing.T) {
	for _, c := range []struct{ kind, square, want int }{{api.Rook, 0, 12}, {api.Bishop, 0, 6}, {api.Bishop, 27, 9}, {api.Rook, 27, 10}, {api.Rook, 1, 11}, {api.Bishop, 3, 5}} {
		if got := len(plainMatter(c.kind, c.square)); got != c.want {
			t.Errorf("P11: %d squares matter to %d on %d, want %d", got, c.kind, c.square, c.want)
		}
	}
}

func TestP11MagicOnEverySquare(t *testing.T) {
	source := rand.New(rand.NewSource(11))
	are, areNot := 0, 0
	for kind := api.Bishop; kind <= api.Rook; kind++ {
		for square := range 64 {
			views := plainViews(kind, square)
			found, _, _ := rook.Find(kind, square, source.Uint64(), 10000)
			factors := []uint64{0, 1, ^uint64(0), 0x0101010101010101, found, source.Uint64(), source.Uint64() & source.Uint64() & source.Uint64()}
			for _, factor := range factors {
				for bits := 1; bits <= 12; bits++ {
					want := plainMagic(views, factor, bits)
					if got, e := rook.Magic(kind, square, factor, bits); got != want || e != api.OK {
						t.Fatalf("P11: Magic(%d, %d, %#x, %d) = %t, %d, want %t", kind, square, factor, bits, got, e, want)
					}
					if want {
						are++
					} else {
						areNot++
					}
				}
			}
		}
	}
	if are < 200 || areNot < 200 {
		t.Errorf("%d factors are magic, %d are not", are, areNot)
	}
}

func TestP11FindOnEverySquare(t *testing.T) {
	source := rand.New(rand.NewSource(12))
	found, none := 0, 0
	for kind := api.Bishop; kind <= api.Rook; kind++ {
		for square := range 64 {
			views, bits := plainViews(kind, square), len(plainMatter(kind, square))
			seed, tries := source.Uint64(), source.Intn(1500)
			wantFactor, wantK := uint64(0), 0
			for k := 1; k <= tries && wantK == 0; k++ {
				if f := plainFactor(seed, k); plainMagic(views, f, bits) {
					wantFactor, wantK = f, k
				}
			}
			if f, k, e := rook.Find(kind, square, seed, tries); f != wantFactor || k != wantK || e != api.OK {
				t.Fatalf("P11: Find(%d, %d, %#x, %d) = %#x, %d, %d, want %#x, %d", kind, square, seed, tries, f, k, e, wantFactor, wantK)
			}
			if wantK == 0 {
				none++
				continue
			}
			found++
			if f, k, e := rook.Find(kind, square, seed, wantK); f != wantFactor || k != wantK || e != api.OK {
				t.Errorf("P11: the last of %d tries: %#x, %d, %d", wantK, f, k, e)
			}
			if f, k, e := rook.Find(kind, square, seed, wantK-1); f != 0 || k != 0 || e != api.OK {
				t.Errorf("P11: one try less than %d: %#x, %d, %d", wantK, f, k, e)
			}
		}
	}
	if found < 20 || none < 10 {
		t.Errorf("%d were found, %d not", found, none)
	}
}

func TestP11Errors(t *testing.T) {
	for _, kind := range wildNumbers {
		for _, square := range wildNumbers {
			for _, n := range append(wildNumbers, 10000) {
				wantMagic, wantFind := api.OK, api.OK
				if n < 1 || n > 12 {
					wantMagic = api.ErrTries
				}
				if n < 0 || n > 10000 {
					wantFind = api.ErrTries
				}
				if kind != 4 && kind != 5 || square < 0 || square > 63 {
					wantMagic, wantFind = api.ErrSquare, api.ErrSquare
				}
				if is, e := rook.Magic(kind, square, 0, n); is || e != wantMagic {
					t.Errorf("P11: Magic(%d, %d, 0, %d) = %t, %d, want %d", kind, square, n, is, e, wantMagic)
				}
				if f, k, e := rook.Find(kind, square, 7, n); e != wantFind || e != api.OK && (f != 0 || k != 0) {
					t.Errorf("P11: Find(%d, %d, 7, %d) = %#x, %d, %d, want %d", kind, square, n, f, k, e, wantFind)
				}
			}
		}
	}
}

func TestP2CountsHangOnArgumentsAlone(t *testing.T) {
	answers := func(cache *rook.Cache) []any {
		var all []any
		for _, text := range wildTexts {
			key, e := rook.Key(text)
			list, f := rook.Divide(text, 2, api.Sets)
			paths, g := cache.Perft(text, 2, api.Letters)
			all = append(all, key, e, list, f, paths, g)
		}
		for square := range 64 {
			factor, k, e := rook.Find(api.Bishop, square, 3, 500)
			is, f := rook.Magic(api.Bishop, square, factor, 7)
			all = append(all, factor, k, e, is, f)
		}
		return all
	}
	cache, _ := rook.New(64)
	first := answers(cache)
	for range 2 {
		if !reflect.DeepEqual(answers(cache), first) {
			t.Error("P2: the same questions have other answers")
		}
	}
}
