package magic

import (
	"testing"

	"rook/api"
	"rook/sets"
)

func TestMatter(t *testing.T) {
	for _, c := range []struct {
		kind, square int
		want         sets.Set
	}{
		{api.Rook, 0, 0x000101010101017e},
		{api.Rook, 7, 0x008080808080807e},
		{api.Rook, 56, 0x7e01010101010100},
		{api.Rook, 63, 0x7e80808080808000},
		{api.Rook, 27, 0x0008080876080800},
		{api.Rook, 1, 0x000202020202027c},
		{api.Bishop, 0, 0x0040201008040200},
		{api.Bishop, 7, 0x0002040810204000},
		{api.Bishop, 27, 0x0040221400142200},
		{api.Bishop, 9, 0x0040201008040000},
		{api.Bishop, 3, 0x0000000040221400},
		{api.Bishop, 63, 0x0040201008040200},
	} {
		if got := matter(c.kind, c.square); got != c.want {
			t.Errorf("kind %d on %d: %#x, want %#x", c.kind, c.square, uint64(got), uint64(c.want))
		}
	}
}

func TestViews(t *testing.T) {
	list := views(api.Bishop, 3)
	seen := map[sets.Set]bool{}
	for _, v := range list {
		if seen[v.taken] || v.reached != sets.Reach(api.Bishop, 3, v.taken) || v.reached == 0 {
			t.Errorf("%#x: %#x", uint64(v.taken), uint64(v.reached))
		}
		seen[v.taken] = true
	}
	if len(list) != 32 {
		t.Errorf("%d views of 5 squares", len(list))
	}
}

func TestFits(t *testing.T) {
	list := []view{{1, 7}, {2, 7}, {3, 9}}
	for _, c := range []struct {
		factor uint64
		bits   int
		want   bool
	}{
		{1 << 62, 2, true},  // places 1, 2, 3
		{1 << 62, 1, false}, // places 0, 1, 1
		{1 << 63, 1, false}, // places 1, 0, 1
		{0, 2, false},
		{1 << 61, 3, true},
		{1 << 60, 3, false}, // places 0, 1, 1
	} {
		table := make([]sets.Set, 1<<c.bits)
		for i := range table {
			table[i] = 1 // left by another try
		}
		if got := fits(list, c.factor, table, c.bits); got != c.want {
			t.Errorf("%#x with %d bits: %t", c.factor, c.bits, got)
		}
	}
	if !fits(list[:2], 0, make([]sets.Set, 2), 1) {
		t.Error("two that are the same may come to one place")
	}
}

func TestFind(t *testing.T) {
	f, k := Find(api.Bishop, 0, 7, 10000)
	if k == 0 || f != factor(7, uint64(k)) || !Is(api.Bishop, 0, f, 6) {
		t.Errorf("%#x, %d", f, k)
	}
	for i := 1; i < k; i++ {
		if Is(api.Bishop, 0, factor(7, uint64(i)), 6) {
			t.Errorf("%d is magic and comes before %d", i, k)
		}
	}
	if f, k := Find(api.Bishop, 0, 7, k-1); f != 0 || k != 0 {
		t.Errorf("%#x, %d", f, k)
	}
}
