package rook_test

import (
	"math/rand"
	"reflect"
	"strings"
	"sync"
	"testing"

	"rook/api"
	"rook/rook"
)

const atFirst = "rnbqkbnr/pppppppp/8/8/8/8/PPPPPPPP/RNBQKBNR w KQkq - 0 1"

// goodTexts are of positions that can be.
var goodTexts = []string{
	atFirst,
	"rnbqkbnr/pppppppp/8/8/4P3/8/PPPP1PPP/RNBQKBNR b KQkq e3 0 1",
	"r3k2r/p1ppqpb1/bn2pnp1/3PN3/1p2P3/2N2Q1p/PPPBBPPP/R3K2R w KQkq - 0 1",
	"8/2p5/3p4/KP5r/1R3p1k/8/4P1P1/8 w - - 0 1",
	"4k3/8/8/8/8/8/8/R3K2R w KQ - 0 1",
	"r3k2r/8/8/8/8/8/8/4K3 b kq - 65535 65535",
	"r3k2r/8/8/8/8/8/8/R3K2R b Qk - 10 99",
	"4k3/8/8/pppppppp/8/8/8/4K3 w - a6 0 2",
	"4k3/8/8/pppppppp/8/8/8/4K3 w - h6 0 2",
	"4k3/8/8/8/PPPPPPPP/8/8/4K3 b - a3 0 2",
	"4k3/8/8/8/PPPPPPPP/8/8/4K3 b - h3 65535 2",
	"7k/5Q2/6K1/8/8/8/8/8 b - - 0 1",
	"7k/6Q1/6K1/8/8/8/8/8 b - - 0 1",
	"k7/8/K7/8/8/8/8/8 w - - 0 1",
	"4k3/8/8/8/8/1NNNNNNN/NNNNNNNN/4K3 b - - 0 1",
	"4k3/qqqqqqqq/qqqqqqq1/8/8/8/8/4K3 w - - 0 1",
}

// wildTexts are of all sorts.
var wildTexts = append([]string{
	"", " ", "      ", "/", "///////", " w - - 0 1", "-", "e2e4", "e7e8q", "O-O", "\x00", "\xff\xfe", "é", "8/8/8/8/8/8/8/8 w - - 0 1",
	"4k3/8/8/8/8/8/8/4K3 w - - 0 0", "4k3/8/8/8/8/8/8/4K3 w KQkq - 0 1", "4k3/8/8/8/8/8/8/4K3 w - a8 0 1", "4k3/8/8/8/8/8/8/4K3 b - a1 0 1",
	"KKKKKKKK/KKKKKKKK/KKKKKKKK/KKKKKKKK/kkkkkkkk/kkkkkkkk/kkkkkkkk/kkkkkkkk w KQkq a6 0 1",
	strings.Repeat(" ", 1<<20), strings.Repeat("/", 1<<20), strings.Repeat("8/", 1<<20), strings.Repeat("p", 1<<20), strings.Repeat("K", 1<<20), strings.Repeat("9", 1<<20),
	"4k3/8/8/8/8/8/8/4K3 w - - 0 " + strings.Repeat("1", 1<<20),
	"move e2e4\nperft 1\nnonsense\nlook",
}, goodTexts...)

var wildNumbers = []int{-1 << 63, -1 << 31, -65, -2, -1, 0, 1, 2, 3, 4, 5, 6, 7, 8, 12, 13, 63, 64, 65, 4096, 4097, 10001, 1 << 31, 1<<63 - 1}

// onlyNoughts tells whether no result but the error says anything.
func onlyNoughts(results ...any) bool {
	for _, r := range results {
		v := reflect.ValueOf(r)
		if !v.IsZero() && !(v.Kind() == reflect.Slice && v.Len() == 0) {
			return false
		}
	}
	return true
}

// expectNoughts holds the second half of P1 against the answer of one call.
func expectNoughts(t *testing.T, call string, e api.Errno, results ...any) {
	t.Helper()
	if e < api.OK || e > api.ErrTries {
		t.Errorf("P1: %s answers the error %d", call, e)
	}
	if e != api.OK && !onlyNoughts(results...) {
		t.Errorf("P1: %s with the error %d answers %v too", call, e, results)
	}
}

func TestP1NoTextMakesACallPanic(t *testing.T) {
	cache, _ := rook.New(api.MaxSlots)
	for _, text := range wildTexts {
		p, e := rook.Parse(text)
		expectNoughts(t, "Parse", e, p)
		state, e := rook.Look(text)
		expectNoughts(t, "Look", e, state)
		key, e := rook.Key(text)
		expectNoughts(t, "Key", e, key)
		lines, e := rook.Lab(0, text)
		expectNoughts(t, "Lab", e, lines)
		for _, n := range wildNumbers {
			moves, e := rook.Moves(text, n)
			expectNoughts(t, "Moves", e, moves)
			for _, m := range []int{-1, 1, 2, 3} {
				counts, e := rook.Divide(text, m, n)
				expectNoughts(t, "Divide", e, counts)
				paths, e := cache.Perft(text, m, n)
				expectNoughts(t, "Perft", e, paths)
			}
		}
		for _, move := range []string{"", "e2e4", "e7e8q", "e1g1", "O-O", "Nf3", text} {
			after, e := rook.Play(text, move)
			expectNoughts(t, "Play", e, after)
			short, e := rook.Short(text, move)
			expectNoughts(t, "Short", e, short)
			long, e := rook.Long(text, move)
			expectNoughts(t, "Long", e, long)
		}
	}
}

func TestP1NoNumberMakesACallPanic(t *testing.T) {
	for _, a := range wildNumbers {
		cache, e := rook.New(a)
		expectNoughts(t, "New", e, cache)
		lines, e := rook.Lab(a, "look")
		expectNoughts(t, "Lab", e, lines)
		for _, b := range wildNumbers {
			for _, taken := range []uint64{0, 1, 1 << 63, ^uint64(0)} {
				reached, e := rook.Reach(a, b, taken)
				expectNoughts(t, "Reach", e, reached)
				for _, c := range wildNumbers {
					magic, e := rook.Magic(a, b, taken, c)
					expectNoughts(t, "Magic", e, magic)
					factor, k, e := rook.Find(a, b, taken, min(c, 99))
					expectNoughts(t, "Find", e, factor, k)
				}
			}
		}
	}
}

func TestP1NoPositionMakesFormatPanic(t *testing.T) {
	source := rand.New(rand.NewSource(1))
	for range 20000 {
		p := wildPosition(source)
		text, e := rook.Format(p)
		expectNoughts(t, "Format", e, text)
	}
}

// wildPosition is one that mostly can not be.
func wildPosition(source *rand.Rand) api.Position {
	letters := "................................PNBRQKpnbrqk\x00x\xff"
	p := api.Position{White: source.Intn(2) == 0, Behind: source.Intn(70) - 3, Half: wildNumbers[source.Intn(len(wildNumbers))], Full: wildNumbers[source.Intn(len(wildNumbers))]}
	for i := range p.Board {
		p.Board[i] = letters[source.Intn(len(letters))]
	}
	for i := range p.Castle {
		p.Castle[i] = source.Intn(2) == 0
	}
	return p
}

// answers are those of all calls that P3 to P7 speak of, to the same questions.
func answers() []any {
	var all []any
	for _, text := range wildTexts {
		p, e := rook.Parse(text)
		back, f := rook.Format(p)
		state, g := rook.Look(text)
		letters, h := rook.Moves(text, api.Letters)
		sets, i := rook.Moves(text, api.Sets)
		all = append(all, p, e, back, f, state, g, letters, h, sets, i)
		for _, move := range []string{"e2e4", "e1g1", "e8c8", "e4d3", "x"} {
			after, e := rook.Play(text, move)
			all = append(all, after, e)
		}
	}
	for kind := range 9 {
		for square := range 66 {
			reached, e := rook.Reach(kind, square-1, 0x00ff00818100ff00)
			all = append(all, reached, e)
		}
	}
	return all
}

func TestP2AnswersHangOnArgumentsAlone(t *testing.T) {
	first := answers()
	var wait sync.WaitGroup
	for range 4 {
		wait.Go(func() {
			if !reflect.DeepEqual(answers(), first) {
				t.Error("P2: the same questions have other answers")
			}
		})
	}
	wait.Wait()
}

func TestP2AnswersShareNothing(t *testing.T) {
	p, _ := rook.Parse(atFirst)
	for i := range p.Board {
		p.Board[i] = 'x'
	}
	p.Castle = [4]bool{}
	q, e := rook.Parse(atFirst)
	if text, _ := rook.Format(q); text != atFirst || e != api.OK {
		t.Errorf("P2: what was done to an answer shows in the next: %q, %d", text, e)
	}
}

func TestP3ParseAndFormatAreTheReverseOfEachOther(t *testing.T) {
	for _, text := range goodTexts {
		p, e := rook.Parse(text)
		want, _ := plainParse(text)
		if p != want || e != api.OK {
			t.Errorf("P3: Parse(%q) = %+v, %d, want %+v", text, p, e, want)
		}
		if back, e := rook.Format(p); back != text || e != api.OK {
			t.Errorf("P3: Format of %q = %q, %d", text, back, e)
		}
	}
}

func TestP3Errors(t *testing.T) {
	kings := "4k3/8/8/8/8/8/8/4K3"
	for _, c := range []struct {
		fen string
		e   api.Errno
	}{
		{kings + " w - - 100000 1", api.ErrForm},
		{kings + " w - - 65536 1", api.ErrForm},
		{kings + " w - - 0 65536", api.ErrForm},
		{kings + " w - - 0 1\n", api.ErrForm},
		{kings + "\tw - - 0 1", api.ErrForm},
		{kings + " w - - 0 1 1", api.ErrForm},
		{kings + " b - - 0 1.", api.ErrForm},
		{kings + " wb - - 0 1", api.ErrForm},
		{kings + " w KQqk - 0 1", api.ErrForm},
		{kings + " w kqKQ - 0 1", api.ErrForm},
		{kings + " w - e 0 1", api.ErrForm},
		{kings + " w - e33 0 1", api.ErrForm},
		{kings + " w - -- 0 1", api.ErrForm},
		{"....k.../8/8/8/8/8/8/4K3 w - - 0 1", api.ErrForm},
		{"31k3/8/8/8/8/8/8/4K3 w - - 0 1", api.ErrForm},
		{"4k3/8/8/8/8/8/8/4K3/ w - - 0 1", api.ErrForm},
		{"/4k3/8/8/8/8/8/4K3 w - - 0 1", api.ErrForm},
		{kings + " w - - 65535 65535", api.OK},
		{kings + " w - - 0 0", api.ErrPosition},
		{kings + " w - e4 0 1", api.ErrPosition},
		{kings + " w q - 0 1", api.ErrPosition},
		{"8/8/8/8/8/8/8/8 w - - 0 1", api.ErrPosition},
		// The form comes first, where both are wrong.
		{"8/8/8/8/8/8/8/8 w - - 0 01", api.ErrForm},
		{kings + " w K e4 65536 0", api.ErrForm},
	} {
		if p, e := rook.Parse(c.fen); e != c.e || e != api.OK && p != (api.Position{}) {
			t.Errorf("P3: Parse(%q) = %+v, %d, want %d", c.fen, p, e, c.e)
		}
	}
}

func checkParse(t *testing.T, fen string) {
	t.Helper()
	p, e := rook.Parse(fen)
	if want, wantE := plainParse(fen); p != want || e != wantE {
		t.Fatalf("P3: Parse(%q) = %+v, %d, want %+v, %d", fen, p, e, want, wantE)
	}
	if e != api.OK {
		return
	}
	if back, e := rook.Format(p); back != fen || e != api.OK {
		t.Fatalf("P3: Format of Parse(%q) = %q, %d", fen, back, e)
	}
}

// One byte taken away, put in or changed makes most things that can go wrong.
func TestP3EveryTextAByteAway(t *testing.T) {
	letters := "PNBRQKpnbrqk0123456789/ .-wbaehx\n\x00\xc3"
	for _, text := range goodTexts {
		for i := range len(text) {
			checkParse(t, text[:i]+text[i+1:])
			for _, letter := range []byte(letters) {
				checkParse(t, text[:i]+string([]byte{letter})+text[i+1:])
				checkParse(t, text[:i]+string([]byte{letter})+text[i:])
			}
		}
	}
}

// scattered is a position with a king of each side, and some men, wherever they come to stand.
func scattered(source *rand.Rand) api.Position {
	p := api.Position{White: source.Intn(2) == 0, Behind: -1, Half: source.Intn(65536), Full: 1 + source.Intn(65535)}
	for i := range p.Board {
		p.Board[i] = '.'
	}
	for range source.Intn(40) {
		p.Board[source.Intn(64)] = "PNBRQpnbrq"[source.Intn(10)]
	}
	squares := source.Perm(64)
	p.Board[squares[0]], p.Board[squares[1]] = 'K', 'k'
	if source.Intn(2) == 0 {
		p.Behind = source.Intn(64)
	}
	return p
}

func TestP3ScatteredMen(t *testing.T) {
	source := rand.New(rand.NewSource(2))
	can := 0
	for range 100000 {
		p := scattered(source)
		text, e := rook.Format(p)
		if !plainCanBe(p) {
			if text != "" || e != api.ErrPosition {
				t.Fatalf("P3: Format(%+v) = %q, %d", p, text, e)
			}
			continue
		}
		can++
		if q, f := rook.Parse(text); q != p || e != api.OK || f != api.OK {
			t.Fatalf("P3: Parse of Format of %+v: %q, %d, %+v, %d", p, text, e, q, f)
		}
	}
	if can < 1000 {
		t.Errorf("only %d of them can be", can)
	}
}

func TestP3CallsWithATextAnswerItsErrorFirst(t *testing.T) {
	cache, _ := rook.New(0)
	for text, want := range map[string]api.Errno{"": api.ErrForm, atFirst + " ": api.ErrForm, "8/8/8/8/8/8/8/8 w - - 0 1": api.ErrPosition} {
		_, moves := rook.Moves(text, 0)
		_, play := rook.Play(text, "")
		_, look := rook.Look(text)
		_, key := rook.Key(text)
		_, divide := rook.Divide(text, -1, 0)
		_, perft := cache.Perft(text, -1, 0)
		_, short := rook.Short(text, "")
		_, long := rook.Long(text, "")
		for i, e := range []api.Errno{moves, play, look, key, divide, perft, short, long} {
			if e != want {
				t.Errorf("P3: call %d with %q: %d, want %d", i, text, e, want)
			}
		}
	}
}

func FuzzP3Parse(f *testing.F) {
	for _, text := range goodTexts {
		f.Add(text)
	}
	f.Fuzz(checkParse)
}

func TestP4Examples(t *testing.T) {
	for _, c := range []struct {
		kind, square int
		taken, want  uint64
	}{
		{api.Rook, 0, 0, 0x01010101010101fe},
		{api.Bishop, 27, 1 << 45, 0x0001221400142241},
		{api.WhitePawn, 63, 0, 0},
		{api.BlackPawn, 0, 0, 0},
		{api.Queen, 63, ^uint64(0), 0x40c0000000000000},
	} {
		if got, e := rook.Reach(c.kind, c.square, c.taken); got != c.want || e != api.OK {
			t.Errorf("P4: Reach(%d, %d, %#x) = %#x, %d, want %#x", c.kind, c.square, c.taken, got, e, c.want)
		}
	}
}

func TestP4EveryKindFromEverySquare(t *testing.T) {
	source := rand.New(rand.NewSource(3))
	takens := []uint64{0, ^uint64(0), 0xff818181818181ff, 1, 1 << 63}
	for range 200 {
		takens = append(takens, source.Uint64(), source.Uint64()&source.Uint64(), source.Uint64()&source.Uint64()&source.Uint64())
	}
	for kind := api.WhitePawn; kind <= api.King; kind++ {
		for square := range 64 {
			for _, taken := range takens {
				want := plainReach(kind, square, taken)
				without, e := rook.Reach(kind, square, taken&^(1<<square))
				with, f := rook.Reach(kind, square, taken|1<<square)
				if without != want || with != want || e != api.OK || f != api.OK {
					t.Fatalf("P4: Reach(%d, %d, %#x) = %#x, with its own square %#x, want %#x", kind, square, taken, without, with, want)
				}
			}
		}
	}
}

func TestP4Errors(t *testing.T) {
	for _, kind := range wildNumbers {
		for _, square := range wildNumbers {
			want := api.ErrSquare
			if kind >= 1 && kind <= 7 && square >= 0 && square <= 63 {
				want = api.OK
			}
			if got, e := rook.Reach(kind, square, ^uint64(0)); e != want || e != api.OK && got != 0 {
				t.Errorf("P4: Reach(%d, %d) = %#x, %d, want %d", kind, square, got, e, want)
			}
		}
	}
}
