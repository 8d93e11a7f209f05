package rook_test

import (
	"fmt"
	"math/rand"
	"reflect"
	"regexp"
	"slices"
	"strconv"
	"strings"
	"testing"

	"rook/api"
	"rook/rook"
)

// plainShorts: of each legal move's text its short notation.
func plainShorts(p api.Position) map[string]string {
	shorts := map[string]string{}
	all := plainMoves(p)
	for _, text := range all {
		shorts[text] = plainBody(p, text, all) + plainEnding(plainAfter(p, text))
	}
	return shorts
}

func plainBody(p api.Position, text string, all []string) string {
	man := strings.ToUpper(string(p.Board[plainSquare(text)]))
	if castling, ok := map[string]string{"Keg": "O-O", "Kec": "O-O-O"}[man+text[:1]+text[2:3]]; ok {
		return castling
	}
	takes := ""
	if to := plainSquare(text[2:]); p.Board[to] != '.' || man == "P" && to == p.Behind {
		takes = "x"
	}
	if man != "P" {
		return man + plainWhich(p, text, all) + takes + text[2:]
	}
	short := takes + text[2:4]
	if takes != "" {
		short = text[:1] + short
	}
	if len(text) == 5 {
		short += "=" + strings.ToUpper(text[4:])
	}
	return short
}

func plainWhich(p api.Position, text string, all []string) string {
	var others, files, ranks string
	for _, other := range all {
		if other[2:4] == text[2:4] && other[:2] != text[:2] && p.Board[plainSquare(other)] == p.Board[plainSquare(text)] {
			others += other[:2]
			files += other[:1]
			ranks += other[1:2]
		}
	}
	switch {
	case others == "":
		return ""
	case !strings.Contains(files, text[:1]):
		return text[:1]
	case !strings.Contains(ranks, text[1:2]):
		return text[1:2]
	}
	return text[:2]
}

func plainEnding(p api.Position) string {
	state := plainLook(p)
	switch {
	case state.Over == 1:
		return "#"
	case state.Check:
		return "+"
	}
	return ""
}

// shortForms are those that a test should not miss.
var shortForms = map[string]*regexp.Regexp{
	"short castling":         regexp.MustCompile(`^O-O$`),
	"long castling":          regexp.MustCompile(`^O-O-O$`),
	"a pawn":                 regexp.MustCompile(`^[a-h][1-8]$`),
	"a pawn takes":           regexp.MustCompile(`^[a-h]x[a-h][1-8]$`),
	"a pawn turns":           regexp.MustCompile(`^[a-h][18]=[QRBN]$`),
	"a pawn takes and turns": regexp.MustCompile(`^[a-h]x[a-h][18]=[QRBN][+#]?$`),
	"a piece":                regexp.MustCompile(`^[NBRQK][a-h][1-8]$`),
	"a piece takes":          regexp.MustCompile(`^[NBRQK]x[a-h][1-8]$`),
	"by the file":            regexp.MustCompile(`^[NBRQ][a-h]x?[a-h][1-8]`),
	"by the rank":            regexp.MustCompile(`^[NBRQ][1-8]x?[a-h][1-8]`),
	"by both":                regexp.MustCompile(`^[NBRQ][a-h][1-8]x?[a-h][1-8]`),
	"check":                  regexp.MustCompile(`\+$`),
	"mate":                   regexp.MustCompile(`#$`),
}

// checkShorts holds Short and Long of every legal move against the words.
func checkShorts(t *testing.T, p api.Position, seen map[string]int) map[string]string {
	t.Helper()
	fen, _ := rook.Format(p)
	shorts := plainShorts(p)
	for move, want := range shorts {
		if got, e := rook.Short(fen, move); got != want || e != api.OK {
			t.Fatalf("P12: Short(%q, %q) = %q, %d, want %q", fen, move, got, e, want)
		}
		if got, e := rook.Long(fen, want); got != move || e != api.OK {
			t.Fatalf("P12: Long(%q, %q) = %q, %d, want %q", fen, want, got, e, move)
		}
		for name, form := range shortForms {
			if form.MatchString(want) {
				seen[name]++
			}
		}
	}
	return shorts
}

func expectForms(t *testing.T, seen map[string]int, least int, names ...string) {
	t.Helper()
	for _, name := range names {
		if seen[name] < least {
			t.Errorf("%s: seen %d times", name, seen[name])
		}
	}
}

func TestP12DealtPositions(t *testing.T) {
	source := rand.New(rand.NewSource(13))
	seen := map[string]int{}
	for range 250 {
		checkShorts(t, dealt(source), seen)
	}
	expectForms(t, seen, 3, "short castling", "long castling", "a pawn", "a pawn takes", "a pawn turns", "a pawn takes and turns", "a piece", "a piece takes", "by the file", "by the rank", "check", "mate")
}

// crowd is a position with many pieces of one kind on each side.
func crowd(source *rand.Rand) api.Position {
	for {
		p := scattered(source)
		p.Behind = -1
		kind := source.Intn(4)
		for i, letter := range p.Board {
			switch {
			case strings.ContainsRune("PNBRQ", rune(letter)):
				p.Board[i] = "NBRQ"[kind]
			case strings.ContainsRune("pnbrq", rune(letter)):
				p.Board[i] = "nbrq"[kind]
			}
		}
		if plainCanBe(p) {
			return p
		}
	}
}

func TestP12ManyOfOneKind(t *testing.T) {
	source := rand.New(rand.NewSource(14))
	seen := map[string]int{}
	for range 200 {
		checkShorts(t, crowd(source), seen)
	}
	expectForms(t, seen, 50, "by the file", "by the rank", "check", "a piece takes")
	expectForms(t, seen, 10, "by both")
}

func TestP12Words(t *testing.T) {
	for _, c := range []struct{ fen, move, want string }{
		{"4k3/8/8/8/8/8/8/R3K2R w KQ - 0 1", "e1g1", "O-O"},
		{"4k3/8/8/8/8/8/8/R3K2R w KQ - 0 1", "a1a8", "Ra8+"},
		{"6k1/8/8/8/8/8/R6R/7K w - - 0 1", "a2d2", "Rad2"},
		{"r3k2r/8/8/8/8/8/8/4K3 b kq - 0 1", "e8c8", "O-O-O"},
		{"r3k2r/8/8/8/8/8/8/5K2 b kq - 0 1", "e8g8", "O-O+"},
		{"r3k2r/8/8/8/8/8/8/3K4 b kq - 0 1", "e8c8", "O-O-O+"},
		{"5k2/8/8/8/8/8/8/R3K2R w KQ - 0 1", "e1g1", "O-O+"},
		{"3k4/8/8/8/8/8/8/R3K2R w KQ - 0 1", "e1c1", "O-O-O+"},
		{"5k2/2N1p1p1/7N/8/8/8/8/4K2R w K - 0 1", "e1g1", "O-O#"},
		{"3k4/8/3K4/8/8/8/8/R7 w - - 0 1", "a1a8", "Ra8#"},
		// No move is left, but there is no check.
		{"7k/8/4Q1K1/8/8/8/8/8 w - - 0 1", "e6f7", "Qf7"},
		// The other one could not legally move there, so nothing tells them apart.
		{"4r2k/8/8/8/8/4N3/8/N3K3 w - - 0 1", "a1c2", "Nc2"},
		// One of the other side does not count.
		{"7k/8/8/8/n7/8/N7/7K w - - 0 1", "a2c3", "Nc3"},
		// Nor does a piece of another kind.
		{"6k1/8/8/8/8/8/R6Q/7K w - - 0 1", "a2d2", "Rd2"},
		// Nor do the four moves of one pawn.
		{"7k/P7/8/8/8/8/8/K7 w - - 0 1", "a7a8b", "a8=B"},
		{"7k/P7/8/8/8/8/8/K7 w - - 0 1", "a7a8r", "a8=R+"},
		// Two pawns that take are told apart by their files anyway.
		{"7k/8/8/3p4/2P1P3/8/8/K7 w - - 0 1", "c4d5", "cxd5"},
		{"7k/8/8/2PpP3/8/8/8/K7 w - d6 0 1", "c5d6", "cxd6"},
		{"7k/8/8/8/1pPp4/8/1K6/8 b - c3 0 1", "d4c3", "dxc3+"},
		// A bishop's letter is great, a file's is not.
		{"6k1/8/8/2p5/1P1B4/8/8/7K w - - 0 1", "b4c5", "bxc5"},
		{"6k1/8/8/2p5/1P1B4/8/8/7K w - - 0 1", "d4c5", "Bxc5"},
	} {
		if got, e := rook.Short(c.fen, c.move); got != c.want || e != api.OK {
			t.Errorf("P12: Short(%q, %q) = %q, %d, want %q", c.fen, c.move, got, e, c.want)
		}
		if got, e := rook.Long(c.fen, c.want); got != c.move || e != api.OK {
			t.Errorf("P12: Long(%q, %q) = %q, %d, want %q", c.fen, c.want, got, e, c.move)
		}
	}
}

// Every text that is near to a short notation, but is none, is refused.
func TestP12NothingElseIsRead(t *testing.T) {
	seen := map[string]int{}
	for _, fen := range []string{
		atFirst,
		"r3k2r/1P4p1/8/3pP3/8/8/8/R3K2R w KQkq d6 0 2",
		"r3k2r/8/8/8/3Pp3/8/1p4p1/R3K1BR b KQkq d3 7 9",
		"6k1/8/8/8/Q2Q4/8/8/Q6K w - - 0 1",
		"7k/6Q1/6K1/8/8/8/8/8 b - - 0 1",
	} {
		p, _ := rook.Parse(fen)
		longs := map[string]string{}
		for move, short := range checkShorts(t, p, seen) {
			longs[short] = move
		}
		check := func(text string) {
			t.Helper()
			want, wantE := longs[text], api.OK
			if want == "" {
				wantE = api.ErrIllegal
			}
			if got, e := rook.Long(fen, text); got != want || e != wantE {
				t.Fatalf("P12: Long(%q, %q) = %q, %d, want %q, %d", fen, text, got, e, want, wantE)
			}
		}
		for _, text := range []string{"", " ", "O-O", "O-O-O", "0-0", "o-o", "O-O-O-O", "e4", "Ke2", "e8=Q", "bxa8=K", "bxa8", "bxa8=q", "\x00", "é", strings.Repeat("e4", 1<<18)} {
			check(text)
		}
		for short, move := range longs {
			check(move)
			for i := range len(short) {
				check(short[:i] + short[i+1:])
				for _, letter := range []byte("ae18NPqx=+#-O") {
					check(short[:i] + string([]byte{letter}) + short[i:])
					check(short[:i] + string([]byte{letter}) + short[i+1:])
				}
			}
			check(short + "+")
			check(short + "#")
			check(short + " ")
		}
	}
	expectForms(t, seen, 1, "short castling", "long castling", "a pawn takes and turns", "by both")
}

func TestP12EveryTextOfTheForm(t *testing.T) {
	for _, fen := range []string{atFirst, "r3k3/1P5p/8/3pP3/8/8/8/4K3 w q d6 65535 65535"} {
		p, _ := rook.Parse(fen)
		shorts := plainShorts(p)
		for pair := range 64 * 64 {
			for _, turn := range []string{"", "q", "r", "b", "n"} {
				move := plainName(pair/64) + plainName(pair%64) + turn
				want, wantE := shorts[move], api.OK
				if want == "" {
					wantE = api.ErrIllegal
				}
				if got, e := rook.Short(fen, move); got != want || e != wantE {
					t.Fatalf("P12: Short(%q, %q) = %q, %d, want %q, %d", fen, move, got, e, want, wantE)
				}
			}
		}
	}
}

func TestP12Errors(t *testing.T) {
	for _, c := range []struct {
		fen, move   string
		short, long api.Errno
	}{
		{"", "", api.ErrForm, api.ErrForm},
		{atFirst + " ", "e2e4", api.ErrForm, api.ErrForm},
		{"8/8/8/8/8/8/8/8 w - - 0 1", "", api.ErrPosition, api.ErrPosition},
		{atFirst, "", api.ErrForm, api.ErrIllegal},
		{atFirst, "e2e4k", api.ErrForm, api.ErrIllegal},
		{atFirst, "e2e4 ", api.ErrForm, api.ErrIllegal},
		{atFirst, "O-O", api.ErrForm, api.ErrIllegal},
		{atFirst, "e2e5", api.ErrIllegal, api.ErrIllegal},
		{atFirst, "e2e4q", api.ErrIllegal, api.ErrIllegal},
		{atFirst, "e7e5", api.ErrIllegal, api.ErrIllegal},
	} {
		if s, e := rook.Short(c.fen, c.move); s != "" || e != c.short {
			t.Errorf("P12: Short(%q, %q) = %q, %d, want %d", c.fen, c.move, s, e, c.short)
		}
		if s, e := rook.Long(c.fen, c.move); s != "" || e != c.long {
			t.Errorf("P12: Long(%q, %q) = %q, %d, want %d", c.fen, c.move, s, e, c.long)
		}
	}
}

var (
	plainCommand = regexp.MustCompile(`(?s)\A(?:(fen|move|short) (.*)|(moves|look)|(perft|compare) ([0-3])|(divide) ([1-3])|(epd) (.*))\z`)
	plainRecord  = regexp.MustCompile(`\A([^ ]+ [^ ]+ [^ ]+ [^ ]+)((?: ;D[1-3] (?:0|[1-9][0-9]{0,8}))*)\z`)
	plainTold    = regexp.MustCompile(`;D([1-3]) ([0-9]+)`)
)

// plainLab does what lines say by the other calls, and keeps the text of a position alone.
type plainLab struct{ fen string }

func plainReport(script string) []string {
	l := plainLab{fen: atFirst}
	var report []string
	for i, line := range strings.Split(script, "\n") {
		report = append(report, l.lines(i+1, line)...)
	}
	return report
}

// lines are those of the report on one line of the script.
func (l *plainLab) lines(number int, line string) []string {
	if line == "" {
		return nil
	}
	var lines []string
	words := slices.DeleteFunc(plainCommand.FindStringSubmatch(line), func(s string) bool { return s == "" })
	switch {
	case len(words) == 3 && (words[1] == "perft" || words[1] == "compare" || words[1] == "divide"):
		lines = l.counted(words[1], int(words[2][0]-'0'))
	case len(words) == 3 && words[1] == "epd":
		lines = plainEpd(words[2])
	case len(words) >= 2:
		lines = l.done(words[1], strings.Join(words[2:], ""))
	}
	if lines == nil {
		return []string{fmt.Sprint("error ", number)}
	}
	return lines
}

// done is nil where something is wrong.
func (l *plainLab) done(command, text string) []string {
	switch command {
	case "fen":
		if _, e := rook.Parse(text); e == api.OK {
			l.fen = text
			return []string{"ok"}
		}
	case "short":
		if move, e := rook.Long(l.fen, text); e == api.OK {
			return l.done("move", move)
		}
	case "move":
		if after, e := rook.Play(l.fen, text); e == api.OK {
			l.fen = after
			return []string{"ok " + after}
		}
	case "moves":
		if list, _ := rook.Moves(l.fen, api.Letters); len(list) > 0 {
			return []string{strings.Join(list, " ")}
		}
		return []string{"none"}
	case "look":
		state, _ := rook.Look(l.fen)
		return []string{[]string{"open", "mate", "stalemate", "dead"}[state.Over] + map[bool]string{true: " check"}[state.Check]}
	}
	return nil
}

func (l *plainLab) counted(command string, depth int) []string {
	cache, _ := rook.New(0)
	paths, _ := cache.Perft(l.fen, depth, api.Sets)
	if command == "perft" {
		return []string{fmt.Sprint(paths)}
	}
	if command == "compare" {
		return []string{fmt.Sprint("same ", paths)}
	}
	list, _ := rook.Divide(l.fen, depth, api.Sets)
	var lines []string
	for _, c := range list {
		lines = append(lines, fmt.Sprint(c.Move, " ", c.Paths))
	}
	return append(lines, fmt.Sprint("sum ", paths))
}

func plainEpd(text string) []string {
	parts := plainRecord.FindStringSubmatch(text)
	if parts == nil {
		return nil
	}
	fen := parts[1] + " 0 1"
	if _, e := rook.Parse(fen); e != api.OK {
		return nil
	}
	cache, _ := rook.New(0)
	for _, told := range plainTold.FindAllStringSubmatch(parts[2], -1) {
		depth, _ := strconv.Atoi(told[1])
		if paths, _ := cache.Perft(fen, depth, api.Sets); fmt.Sprint(paths) != told[2] {
			return []string{fmt.Sprint("fail D", depth, " ", paths)}
		}
	}
	return []string{"pass"}
}

func checkLab(t *testing.T, slots int, script string) []string {
	t.Helper()
	want := plainReport(script)
	got, e := rook.Lab(slots, script)
	if !slices.Equal(got, want) || e != api.OK {
		t.Fatalf("P13: Lab(%d, %q) = %q, %d, want %q", slots, script, got, e, want)
	}
	return got
}

const kings = "4k3/8/8/8/8/8/8/4K3"

func TestP13Lines(t *testing.T) {
	afterE4 := "rnbqkbnr/pppppppp/8/8/4P3/8/PPPP1PPP/RNBQKBNR b KQkq e3 0 1"
	for _, c := range []struct{ script, want string }{
		{"move e2e4\nperft 1\nnonsense\nlook", "ok " + afterE4 + "\n20\nerror 3\nopen"},
		{"", ""},
		{"\n", ""},
		{"\n\nlook\n\n", "open"},
		{"\n\nx\n\ny", "error 3\nerror 5"},
		{"look\r\nlook", "error 1\nopen"},
		{"look\x00\n\tlook\n \nlook", "error 1\nerror 2\nerror 3\nopen"},
		// The position at first is just that.
		{"move e2e4\nmove e7e5", "ok " + afterE4 + "\nok rnbqkbnr/pppp1ppp/8/4p3/4P3/8/PPPP1PPP/RNBQKBNR w KQkq e6 0 2"},
		{"short e4\nshort e5", "ok " + afterE4 + "\nok rnbqkbnr/pppp1ppp/8/4p3/4P3/8/PPPP1PPP/RNBQKBNR w KQkq e6 0 2"},
		// A move's text is no short notation, nor the other way round.
		{"move e4\nshort e2e4\nmove Nf3\nshort Nf3", "error 1\nerror 2\nerror 3\nok rnbqkbnr/pppppppp/8/8/8/5N2/PPPPPPPP/RNBQKB1R b KQkq - 1 1"},
		// Nothing is changed by what is wrong.
		{"move e2e4\nmove e2e4\nfen 8/8/8/8/8/8/8/8 w - - 0 1\nfen " + kings + " w - - 0 01\nfen\nfen \nshort e4\nperft 4\nmove e7e5q\nmove e7e6", "ok " + afterE4 + "\nerror 2\nerror 3\nerror 4\nerror 5\nerror 6\nerror 7\nerror 8\nerror 9\nok rnbqkbnr/pppp1ppp/4p3/8/4P3/8/PPPP1PPP/RNBQKBNR w KQkq - 0 2"},
		{"fen " + kings + " w - - 65535 65535\nmove e1e2\nmove e8d8", "ok\nok 4k3/8/8/8/8/8/4K3/8 b - - 65535 65535\nok 3k4/8/8/8/8/8/4K3/8 w - - 65535 65535"},
		{"fen  " + kings + " w - - 0 1\nfen " + kings + " w - - 0 1 \nFEN " + kings + " w - - 0 1\nfen" + kings + " w - - 0 1\nmoves", "error 1\nerror 2\nerror 3\nerror 4\na2a3 a2a4 b1a3 b1c3 b2b3 b2b4 c2c3 c2c4 d2d3 d2d4 e2e3 e2e4 f2f3 f2f4 g1f3 g1h3 g2g3 g2g4 h2h3 h2h4"},
		{"fen 7k/8/8/8/8/8/8/K7 b - - 0 1\nmoves\nlook", "ok\nh8g7 h8g8 h8h7\ndead"},
		{"fen 7k/6Q1/6K1/8/8/8/8/8 b - - 0 1\nmoves\nlook\nperft 0\nperft 1\ndivide 1\ndivide 3\ncompare 3\nmove h8g8", "ok\nnone\nmate check\n1\n0\nsum 0\nsum 0\nsame 0\nerror 9"},
		{"fen 7k/5Q2/6K1/8/8/8/8/8 b - - 0 1\nmoves\nlook\nperft 1", "ok\nnone\nstalemate\n0"},
		{"fen k7/8/KN6/8/8/8/8/8 b - - 0 1\nlook", "ok\ndead check"},
		{"fen 4k3/8/8/8/8/8/8/3qK3 w - - 0 1\nlook\nmoves", "ok\nopen check\ne1d1 e1f2"},
		{"perft 0\nperft 1\nperft 2\nperft 3\ncompare 0\ncompare 1\ncompare 2\ncompare 3", "1\n20\n400\n8902\nsame 1\nsame 20\nsame 400\nsame 8902"},
		{"fen 7k/8/8/8/8/8/8/K7 b - - 0 1\ndivide 1\ndivide 2\ndivide 3", "ok\nh8g7 1\nh8g8 1\nh8h7 1\nsum 3\nh8g7 3\nh8g8 3\nh8h7 3\nsum 9\nh8g7 24\nh8g8 15\nh8h7 15\nsum 54"},
		{"perft 4\nperft -1\nperft +1\nperft 1x\nperft 01\nperft ٣\ndivide 0\ndivide 4\ndivide 11\ncompare 4\ncompare\ncompare  1\nperft\ndivide\nperft1\nperft\t1\nmoves \nmoves 1\nlook 1", "error 1\nerror 2\nerror 3\nerror 4\nerror 5\nerror 6\nerror 7\nerror 8\nerror 9\nerror 10\nerror 11\nerror 12\nerror 13\nerror 14\nerror 15\nerror 16\nerror 17\nerror 18\nerror 19"},
	} {
		want := strings.Split(c.want, "\n")
		if c.want == "" {
			want = nil
		}
		for _, slots := range []int{0, 1, 7, api.MaxSlots} {
			if got := checkLab(t, slots, c.script); !slices.Equal(got, want) {
				t.Errorf("P13: Lab(%d, %q) = %q, want %q", slots, c.script, got, want)
			}
		}
	}
}

func TestP13Records(t *testing.T) {
	const first = "rnbqkbnr/pppppppp/8/8/8/8/PPPPPPPP/RNBQKBNR w KQkq -"
	for record, want := range map[string]string{
		first:                                        "pass",
		first + " ;D1 20":                            "pass",
		first + " ;D1 20 ;D2 400 ;D3 8902":           "pass",
		first + " ;D3 8902 ;D1 20 ;D3 8902":          "pass",
		first + " ;D1 21":                            "fail D1 20",
		first + " ;D1 0":                             "fail D1 20",
		first + " ;D1 999999999":                     "fail D1 20",
		first + " ;D3 8903 ;D1 21":                   "fail D3 8902",
		first + " ;D1 20 ;D2 401 ;D3 1":              "fail D2 400",
		first + " ;D2 400 ;D2 401":                   "fail D2 400",
		"7k/6Q1/6K1/8/8/8/8/8 b - - ;D1 0":           "pass",
		"7k/6Q1/6K1/8/8/8/8/8 b - - ;D1 1":           "fail D1 0",
		"4k3/8/8/3pP3/8/8/8/4K3 w - d6 ;D1 7":        "pass",
		"4k3/8/8/3pP3/8/8/8/4K3 w - - ;D1 6":         "pass",
		"4k3/8/8/8/8/8/8/R3K2R w KQ - ;D1 26":        "pass",
		"4k3/8/8/8/8/8/8/R3K2R w - - ;D1 24":         "pass",
		"4k3/8/8/3pP3/8/8/8/4K3 b - d6":              "error 2",
		"4k3/8/8/8/8/8/8/4K3 w K -":                  "error 2",
		"8/8/8/8/8/8/8/8 w - -":                      "error 2",
		"":                                           "error 2",
		" " + first:                                  "error 2",
		first + " ":                                  "error 2",
		first + " 0 1":                               "error 2",
		first + " 0":                                 "error 2",
		first + " 0 1 ;D1 20":                        "error 2",
		first[:len(first)-2]:                         "error 2",
		first[:len(first)-2] + " ;D1 20":             "error 2",
		" ;D1 20":                                    "error 2",
		";D1 20":                                     "error 2",
		first + ";D1 20":                             "error 2",
		first + "  ;D1 20":                           "error 2",
		first + " ; D1 20":                           "error 2",
		first + " ;d1 20":                            "error 2",
		first + " ;D0 1":                             "error 2",
		first + " ;D4 197281":                        "error 2",
		first + " ;D01 20":                           "error 2",
		first + " ;D11 20":                           "error 2",
		first + " ;D 20":                             "error 2",
		first + " ;D1":                               "error 2",
		first + " ;D1 ":                              "error 2",
		first + " ;D1 20 ":                           "error 2",
		first + " ;D1  20":                           "error 2",
		first + " ;D1 020":                           "error 2",
		first + " ;D1 00":                            "error 2",
		first + " ;D1 -20":                           "error 2",
		first + " ;D1 +20":                           "error 2",
		first + " ;D1 20x":                           "error 2",
		first + " ;D1 1234567890":                    "error 2",
		first + " ;D1 18446744073709551636":          "error 2",
		first + " ;D1 20;D2 400":                     "error 2",
		first + " ;D1 20 D2 400":                     "error 2",
		first + " ;D1 20 ;D2 400;":                   "error 2",
		first + " ;D1 20 ;D2 400 ;":                  "error 2",
		first + " ;D1 21 ;D2 x":                      "error 2", // the form comes ahead of the counts
		first + " ;D1 21 ;D4 1":                      "error 2",
		first + " ;D1 20 ;D1":                        "error 2",
		first + " ;D1 20\t;D2 400":                   "error 2",
		first + " bm e4;":                            "error 2",
		first + " ;D1 " + strings.Repeat("2", 1<<18): "error 2",
	} {
		script := "fen 7k/8/8/8/8/8/8/K7 b - - 0 1\nepd " + record + "\nmoves"
		for _, slots := range []int{0, 100} {
			if got := checkLab(t, slots, script); !slices.Equal(got, []string{"ok", want, "h8g7 h8g8 h8h7"}) {
				t.Errorf("P13: the record %q: %q, want %q", record, got, want)
			}
		}
	}
}

// drawnLine is one that could come next where the lab has come to.
func drawnLine(source *rand.Rand, fen string) string {
	depth := strconv.Itoa(source.Intn(3))
	moves, _ := rook.Moves(fen, api.Sets)
	move := "e2e4"
	if len(moves) > 0 {
		move = moves[source.Intn(len(moves))]
	}
	short, _ := rook.Short(fen, move)
	lines := []string{
		"", "moves", "look", "perft " + depth, "divide " + depth, "compare " + depth,
		"move " + move, "move " + move, "move " + move, "short " + short, "short " + short, "short " + short,
		"fen " + goodTexts[source.Intn(len(goodTexts))],
		drawnRecord(source, goodTexts[source.Intn(len(goodTexts))]),
		drawnRecord(source, fen),
	}
	return lines[source.Intn(len(lines))]
}

func drawnRecord(source *rand.Rand, fen string) string {
	cache, _ := rook.New(0)
	text := "epd " + strings.Join(strings.Fields(fen)[:4], " ")
	for range source.Intn(4) {
		depth := 1 + source.Intn(2)
		paths, _ := cache.Perft(strings.Join(strings.Fields(fen)[:4], " ")+" 0 1", depth, api.Letters)
		if source.Intn(4) == 0 {
			paths++
		}
		text += fmt.Sprint(" ;D", depth, " ", paths)
	}
	return text
}

// spoilt is a line with one byte taken away, put in or changed.
func spoilt(source *rand.Rand, line string) string {
	if line == "" {
		return " "
	}
	i := source.Intn(len(line))
	letter := string("abh0128 ;D-/KQkqxN#+\r"[source.Intn(21)])
	return []string{line[:i] + line[i+1:], line[:i] + letter + line[i:], line[:i] + letter + line[i+1:]}[source.Intn(3)]
}

func TestP13DrawnScripts(t *testing.T) {
	source := rand.New(rand.NewSource(15))
	first := map[string]int{}
	for range 120 {
		l := plainLab{fen: atFirst}
		var lines []string
		for range 40 {
			line := drawnLine(source, l.fen)
			if source.Intn(5) == 0 {
				line = spoilt(source, line)
			}
			l.lines(0, line)
			lines = append(lines, line)
		}
		for _, line := range checkLab(t, source.Intn(50)*source.Intn(50), strings.Join(lines, "\n")) {
			word, _, _ := strings.Cut(line, " ")
			first[word]++
		}
	}
	for _, word := range []string{"ok", "error", "pass", "fail", "same", "sum", "open", "none", "dead"} {
		if first[word] < 5 {
			t.Errorf("only %d lines begin with %q", first[word], word)
		}
	}
}

func TestP13Slots(t *testing.T) {
	for _, slots := range append(wildNumbers, 4095) {
		want, wantE := []string{"open"}, api.OK
		if slots < 0 || slots > 4096 {
			want, wantE = nil, api.ErrSlots
		}
		if got, e := rook.Lab(slots, "look"); !slices.Equal(got, want) || (got == nil) != (want == nil) || e != wantE {
			t.Errorf("P13: Lab(%d) = %q, %d, want %q, %d", slots, got, e, want, wantE)
		}
		if got, e := rook.Lab(slots, ""); len(got) != 0 || e != wantE {
			t.Errorf("P13: Lab(%d) of nothing = %q, %d, want %d", slots, got, e, wantE)
		}
	}
}

func TestP13LongScripts(t *testing.T) {
	script := strings.Repeat("move g1f3\nmove g8f6\nmove f3g1\nmove f6g8\n", 5000)
	got, e := rook.Lab(0, script+"x")
	if len(got) != 20001 || e != api.OK {
		t.Fatalf("P13: %d lines, %d", len(got), e)
	}
	if want := "ok rnbqkbnr/pppppppp/8/8/8/8/PPPPPPPP/RNBQKBNR w KQkq - 20000 10001"; got[19999] != want || got[20000] != "error 20001" {
		t.Errorf("P13: at the end of a long script %q", got[19999:])
	}
	if got, e := rook.Lab(0, strings.Repeat("\n", 1<<20)+"x"); !slices.Equal(got, []string{"error 1048577"}) || e != api.OK {
		t.Errorf("P13: behind many empty lines %q, %d", got, e)
	}
}

func TestP1NoScriptMakesLabPanic(t *testing.T) {
	for _, command := range []string{"fen", "move", "short", "moves", "look", "perft", "divide", "compare", "epd", ""} {
		for _, text := range wildTexts {
			for _, line := range []string{command + text, command + " " + text, command + " " + text + " ;D1 5"} {
				lines, e := rook.Lab(1, line+"\n"+line)
				expectNoughts(t, "Lab", e, lines)
			}
		}
	}
}

func TestP2ReportsAreNewMemory(t *testing.T) {
	const script = "look\nperft 1\nmove e2e4\ndivide 1\nx"
	a, _ := rook.Lab(5, script)
	want := slices.Clone(a)
	b, _ := rook.Lab(5, script)
	a = a[:cap(a)]
	for i := range a {
		a[i] = "mine"
	}
	c, _ := rook.Lab(5, script)
	if !slices.Equal(b, want) || !slices.Equal(c, want) {
		t.Errorf("P2: what was done to a report shows in others: %q, %q", b, c)
	}
}

func TestP2WritingHangsOnArgumentsAlone(t *testing.T) {
	answers := func() []any {
		var all []any
		for _, text := range wildTexts {
			for _, move := range []string{"e2e4", "e1g1", "e8c8", "e4", "O-O", "x"} {
				short, e := rook.Short(text, move)
				long, f := rook.Long(text, move)
				all = append(all, short, e, long, f)
			}
			report, e := rook.Lab(3, "move e2e4\nfen "+text+"\nmoves\nperft 2\n"+text)
			all = append(all, report, e)
		}
		return all
	}
	first := answers()
	for range 2 {
		if !reflect.DeepEqual(answers(), first) {
			t.Error("P2: the same questions have other answers")
		}
	}
}

func FuzzP13Lab(f *testing.F) {
	f.Add("move e2e4\nperft 1\nnonsense\nlook")
	f.Add("short Nf3\n\nmoves\ndivide 1\ncompare 2\nfen 7k/6Q1/6K1/8/8/8/8/8 b - - 0 1\nlook")
	f.Add("epd 4k3/8/8/8/8/8/8/R3K2R w KQ - ;D1 26 ;D2 112")
	f.Fuzz(func(t *testing.T, script string) { checkLab(t, 10, script) })
}
