package memory

import (
	"testing"

	"rook/api"
	"rook/key"
	"rook/notation"
)

func read(t *testing.T, text string) api.Position {
	p, ok := notation.Read(text)
	if !ok {
		t.Fatalf("%q is no position", text)
	}
	return p
}

const kings = "4k3/8/8/8/8/8/8/4K3 w - - 0 1"

func TestWhatIsRemembered(t *testing.T) {
	p := read(t, kings)
	m := New(1)
	if n, ok := m.Recall(Ask(p, 1, api.Sets)); n != 0 || ok {
		t.Errorf("a new memory knows of %d", n)
	}
	m.Remember(Ask(p, 1, api.Sets), 5)
	if n, ok := m.Recall(Ask(p, 1, api.Sets)); n != 5 || !ok {
		t.Errorf("%d, %t", n, ok)
	}
	for why, q := range map[string]Question{
		"another depth":    Ask(p, 2, api.Sets),
		"another way":      Ask(p, 1, api.Letters),
		"another position": Ask(read(t, "4k3/8/8/8/8/8/8/3K4 w - - 0 1"), 1, api.Sets),
		"another side":     Ask(read(t, "4k3/8/8/8/8/8/8/4K3 b - - 0 1"), 1, api.Sets),
	} {
		if n, ok := m.Recall(q); n != 0 || ok {
			t.Errorf("%s: %d", why, n)
		}
	}
	m.Remember(Ask(p, 2, api.Sets), 7)
	if n, ok := m.Recall(Ask(p, 2, api.Sets)); n != 7 || !ok {
		t.Errorf("the later one: %d, %t", n, ok)
	}
	if n, ok := m.Recall(Ask(p, 1, api.Sets)); ok {
		t.Errorf("one slot has two counts: %d", n)
	}
}

func TestCastlingsAndBehindAreAsked(t *testing.T) {
	for _, texts := range [][2]string{
		{"4k3/8/8/8/8/8/8/R3K2R w KQ - 0 1", "4k3/8/8/8/8/8/8/R3K2R w Q - 0 1"},
		{"4k3/8/8/3pPp2/8/8/8/4K3 w - d6 0 1", "4k3/8/8/3pPp2/8/8/8/4K3 w - f6 0 1"},
		{"4k3/8/8/3pPp2/8/8/8/4K3 w - - 0 1", "4k3/8/8/3pPp2/8/8/8/4K3 w - f6 0 1"},
	} {
		m := New(1)
		m.Remember(Ask(read(t, texts[0]), 1, api.Sets), 5)
		if n, ok := m.Recall(Ask(read(t, texts[1]), 1, api.Sets)); ok {
			t.Errorf("%q is taken for %q: %d", texts[1], texts[0], n)
		}
	}
}

func TestClocksAreNotAsked(t *testing.T) {
	m := New(1)
	m.Remember(Ask(read(t, kings), 1, api.Sets), 5)
	if n, ok := m.Recall(Ask(read(t, "4k3/8/8/8/8/8/8/4K3 w - - 44 55"), 1, api.Sets)); n != 5 || !ok {
		t.Errorf("%d, %t", n, ok)
	}
}

func TestOneKeyIsNotEnough(t *testing.T) {
	p := read(t, "4r3/P2R1n1P/kPp1p3/8/8/7p/8/bB2K3 w - - 0 1")
	q := read(t, "3R2n1/4r1b1/k5pp/8/1p3p2/1P3NR1/1r1P3n/3RK3 w - - 0 1")
	if key.Of(p) != key.Of(q) {
		t.Fatal("these two have not one key")
	}
	m := New(api.MaxSlots)
	m.Remember(Ask(p, 1, api.Sets), 31)
	if n, ok := m.Recall(Ask(q, 1, api.Sets)); ok {
		t.Errorf("one is taken for the other: %d", n)
	}
	m.Remember(Ask(q, 1, api.Sets), 2)
	if n, ok := m.Recall(Ask(p, 1, api.Sets)); ok && n != 31 {
		t.Errorf("one is taken for the other: %d", n)
	}
}

// manyQuestions are all different.
func manyQuestions(t *testing.T) []Question {
	var all []Question
	for white := range 64 {
		for black := range white {
			p := read(t, "8/8/8/8/8/8/8/8 w - - 0 1")
			p.Board[white], p.Board[black] = 'K', 'k'
			for depth := 1; depth <= 3; depth++ {
				all = append(all, Ask(p, depth, api.Letters), Ask(p, depth, api.Sets))
			}
		}
	}
	return all
}

// Of many that were to be remembered there are at most as many as slots, and they are right.
func TestNoMoreThanTheSlots(t *testing.T) {
	for _, slots := range []int{0, 1, 2, 7, 100, 4096} {
		m := New(slots)
		all := manyQuestions(t)
		for i, q := range all {
			m.Remember(q, uint64(i))
		}
		kept := map[Question]uint64{}
		for _, q := range all {
			if n, ok := m.Recall(q); ok {
				kept[q] = n
				if all[n] != q {
					t.Errorf("%d slots: a count of another one", slots)
				}
			}
		}
		if len(kept) > slots || slots > 0 && len(kept) == 0 {
			t.Errorf("%d slots: %d are kept", slots, len(kept))
		}
	}
}

func TestMemoriesShareNothing(t *testing.T) {
	a, b := New(3), New(3)
	a.Remember(Ask(read(t, kings), 1, api.Sets), 5)
	if n, ok := b.Recall(Ask(read(t, kings), 1, api.Sets)); ok {
		t.Errorf("another memory knows of %d", n)
	}
}
