package moves

import "testing"

func TestTexts(t *testing.T) {
	for _, c := range []struct {
		m    Move
		want string
	}{
		{Move{From: 12, To: 28}, "e2e4"},
		{Move{From: 52, To: 60, Turn: 'q'}, "e7e8q"},
		{Move{From: 0, To: 63, Turn: 'n'}, "a1h8n"},
		{Move{}, "a1a1"},
	} {
		if text := c.m.Text(); text != c.want {
			t.Errorf("Text(%+v) = %q, want %q", c.m, text, c.want)
		}
	}
}

func TestEveryTextIsRead(t *testing.T) {
	for from := range 64 {
		for to := range 64 {
			for _, turn := range []byte{0, 'q', 'r', 'b', 'n'} {
				m := Move{From: from, To: to, Turn: turn}
				if got, ok := Read(m.Text()); got != m || !ok {
					t.Fatalf("Read(%q) = %+v, %t", m.Text(), got, ok)
				}
			}
		}
	}
}

func TestNoMove(t *testing.T) {
	for _, text := range []string{"", "e", "e2", "e2e", "e2e9", "e0e4", "i2e4", "e2i4", "e2e4k", "e2e4p", "e2e4Q", "e2e4 ", "e2e4\x00", "e2e4qq", "E2E4", "2e4e", "O-O", "é2e4"} {
		if m, ok := Read(text); m != (Move{}) || ok {
			t.Errorf("Read(%q) = %+v, %t", text, m, ok)
		}
	}
}
