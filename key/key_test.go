package key

import (
	"slices"
	"testing"

	"rook/api"
	"rook/mixing"
	"rook/notation"
)

func read(t *testing.T, text string) api.Position {
	p, ok := notation.Read(text)
	if !ok {
		t.Fatalf("%q is no position", text)
	}
	return p
}

func TestNumbers(t *testing.T) {
	for text, want := range map[string][]int{
		"4k3/8/8/8/8/8/8/4K3 w - - 0 1":         {325, 765},
		"4k3/8/8/8/8/8/8/4K3 b - - 7 9":         {325, 765, 773},
		"r3k2r/8/8/8/8/8/8/R3K2R w KQkq - 0 1":  {193, 325, 200, 633, 765, 640, 769, 770, 771, 772},
		"r3k2r/8/8/8/8/8/8/R3K2R b Qk - 0 1":    {193, 325, 200, 633, 765, 640, 770, 771, 773},
		"4k3/8/8/p6p/8/8/8/4K3 w - a6 0 1":      {325, 417, 424, 765, 774},
		"4k3/8/8/p6p/8/8/8/4K3 w - h6 0 1":      {325, 417, 424, 765, 781},
		"4k3/8/8/8/3P4/8/8/4K3 b - d3 0 1":      {325, 28, 765, 773, 777},
		"NBQ1k1nb/1q6/8/8/8/8/8/4K3 w - - 0 1":  {325, 690, 121, 186, 315, 765, 511, 576},
		"4k3/8/8/8/8/8/P7/4K3 w - - 65535 1234": {325, 9, 765},
	} {
		p := read(t, text)
		if got := slices.Collect(numbers(&p)); !slices.Equal(got, want) {
			t.Errorf("%q: %v, want %v", text, got, want)
		}
		var key uint64
		for _, n := range want {
			key ^= mixing.Number(0, uint64(n))
		}
		if got := Of(p); got != key {
			t.Errorf("%q: %#x, want %#x", text, got, key)
		}
	}
}

func TestNumbersStopWhenAsked(t *testing.T) {
	p := read(t, "r3k2r/8/8/8/3P4/8/8/R3K2R b KQkq d3 0 1")
	all := slices.Collect(numbers(&p))
	for most := 1; most <= len(all); most++ {
		var some []int
		for n := range numbers(&p) {
			some = append(some, n)
			if len(some) == most {
				break
			}
		}
		if !slices.Equal(some, all[:most]) {
			t.Errorf("the first %d are %v, want %v", most, some, all[:most])
		}
	}
}
