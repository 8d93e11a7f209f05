package notation

import (
	"strings"
	"testing"

	"rook/api"
)

func TestReadTakesEachWord(t *testing.T) {
	p, ok := Read("7k/P1p5/8/8/3n4/8/8/RN6 b Kq h8 9 65535")
	want := api.Position{Castle: [4]bool{true, false, false, true}, Behind: 63, Half: 9, Full: 65535}
	copy(want.Board[:], strings.Repeat(".", 64))
	want.Board[0], want.Board[1], want.Board[27] = 'R', 'N', 'n'
	want.Board[48], want.Board[50], want.Board[63] = 'P', 'p', 'k'
	if p != want || !ok {
		t.Errorf("%+v, %t", p, ok)
	}
	if text := Write(p); text != "7k/P1p5/8/8/3n4/8/8/RN6 b Kq h8 9 65535" {
		t.Errorf("written: %q", text)
	}
}

func TestRanks(t *testing.T) {
	for _, c := range []struct{ word, want string }{
		{"8", "........"}, {"k7", "k......."}, {"7k", ".......k"}, {"3k4", "...k...."}, {"1p1p1p1p", ".p.p.p.p"}, {"PNBRQKpn", "PNBRQKpn"}, {"brqk4", "brqk...."},
	} {
		rank, ok := readRank(c.word)
		if string(rank[:]) != c.want || !ok {
			t.Errorf("%q: %q, %t", c.word, rank, ok)
		}
		if back := writeRank([]byte(c.want)); back != c.word {
			t.Errorf("%q written: %q", c.want, back)
		}
	}
	for _, wrong := range []string{"", "0", "9", "7", "pppppppp1", "ppppppppp", "44", "1p11p3", "8p", "p8", "........", "7.", "7x", "7 ", "7é", "-8", "08", "80"} {
		if rank, ok := readRank(wrong); ok {
			t.Errorf("%q: %q", wrong, rank)
		}
	}
}

// Of all words of up to five letters just the 16 are castlings.
func TestCastlings(t *testing.T) {
	found := 0
	var try func(word string)
	try = func(word string) {
		if castle, ok := readCastle(word); ok {
			found++
			if back := writeCastle(castle); back != word {
				t.Errorf("%q comes back as %q", word, back)
			}
		}
		if len(word) == 5 {
			return
		}
		for _, letter := range []string{"K", "Q", "k", "q", "-", "x", "H"} {
			try(word + letter)
		}
	}
	try("")
	if found != 16 {
		t.Errorf("%d words", found)
	}
}

func TestNumbers(t *testing.T) {
	for word, want := range map[string]int{"0": 0, "7": 7, "10": 10, "123456789": 123456789, "999999999": 999999999} {
		for digits := range 10 {
			if n, ok := Number(word, digits); ok != (digits >= len(word)) || ok && n != want {
				t.Errorf("%q with %d digits: %d, %t", word, digits, n, ok)
			}
		}
	}
	for _, wrong := range []string{"", "00", "012345678", "1234567890", "-1", "+1", "1_0", "1 ", " 1", "x"} {
		if n, ok := Number(wrong, 9); ok {
			t.Errorf("%q: %d", wrong, n)
		}
	}
}

func TestClocks(t *testing.T) {
	for word, want := range map[string]int{"0": 0, "1": 1, "10": 10, "9999": 9999, "65535": 65535} {
		if n, ok := readClock(word); n != want || !ok {
			t.Errorf("%q: %d, %t", word, n, ok)
		}
	}
	for _, wrong := range []string{"", "00", "01", "00001", "65536", "99999", "100000", "000000", "-1", "+1", "1_0", "0x1", "1e1", "1.", "x", "/", ":", "٣", "18446744073709551616"} {
		if n, ok := readClock(wrong); ok {
			t.Errorf("%q: %d", wrong, n)
		}
	}
}
