package gather

import (
	"iter"
	"maps"
	"slices"
	"strconv"
	"testing"
)

// upTo yields 0, 1, .., and notes how many were asked for.
func upTo(end int, asked *int) iter.Seq[int] {
	return func(yield func(int) bool) {
		for i := range end {
			*asked++
			if !yield(i) {
				return
			}
		}
	}
}

func isEven(n int) bool { return n%2 == 0 }

// big is a kind of number of its own.
type big uint64

func TestSum(t *testing.T) {
	length := func(text string) int { return len(text) }
	if n := Sum(slices.Values([]string{}), length); n != 0 {
		t.Errorf("of nothing: %d", n)
	}
	if n := Sum(slices.Values([]string{"a", "bcd", "ef"}), length); n != 6 {
		t.Errorf("of three texts: %d", n)
	}
	if n := Sum(slices.Values([]int{1, 2, 3}), func(n int) big { return 1 << (60 + n) }); n != 14<<60 {
		t.Errorf("of three big ones: %d", n)
	}
}

func TestCount(t *testing.T) {
	if n := Count(slices.Values([]string{})); n != 0 {
		t.Errorf("of nothing: %d", n)
	}
	if n := Count(slices.Values([]string{"a", "b", "a"})); n != 3 {
		t.Errorf("of three texts: %d", n)
	}
	if n := Count(maps.Keys(map[int]int{7: 1, 8: 1})); n != 2 {
		t.Errorf("of two numbers: %d", n)
	}
}

func TestFirst(t *testing.T) {
	asked := 0
	if n, ok := First(Only(upTo(10, &asked), func(n int) bool { return n > 2 })); n != 3 || !ok || asked != 4 {
		t.Errorf("%d, %t, asked for %d", n, ok, asked)
	}
	if text, ok := First(slices.Values([]string{})); text != "" || ok {
		t.Errorf("of nothing: %q, %t", text, ok)
	}
}

func TestHas(t *testing.T) {
	asked := 0
	if !Has(upTo(10, &asked), 3) || asked != 4 {
		t.Errorf("3 is there; asked for %d", asked)
	}
	if Has(upTo(10, &asked), 10) || Has(slices.Values([]string{}), "") {
		t.Error("has what is not there")
	}
}

func TestOnly(t *testing.T) {
	asked := 0
	if got := slices.Collect(Only(upTo(7, &asked), isEven)); !slices.Equal(got, []int{0, 2, 4, 6}) {
		t.Errorf("%v", got)
	}
	asked = 0
	for n := range Only(upTo(100, &asked), isEven) {
		if n == 4 {
			break
		}
	}
	if asked != 5 {
		t.Errorf("asked for %d", asked)
	}
}

func TestChain(t *testing.T) {
	asked := 0
	if got := slices.Collect(Chain(upTo(2, &asked), upTo(0, &asked), upTo(3, &asked))); !slices.Equal(got, []int{0, 1, 0, 1, 2}) {
		t.Errorf("%v", got)
	}
	if n := Count(Chain[string]()); n != 0 {
		t.Errorf("of no parts: %d", n)
	}
	asked = 0
	for n := range Chain(upTo(2, &asked), upTo(100, &asked), upTo(100, &asked)) {
		if n == 50 {
			break
		}
	}
	if asked != 53 {
		t.Errorf("asked for %d", asked)
	}
}

func TestInOrder(t *testing.T) {
	things := []int{10, 9, 100, -1}
	if got := InOrder(slices.Values(things), strconv.Itoa); !slices.Equal(got, []int{-1, 10, 100, 9}) {
		t.Errorf("by texts: %v", got)
	}
	if got := InOrder(slices.Values(things), func(n int) int { return n }); !slices.Equal(got, []int{-1, 9, 10, 100}) {
		t.Errorf("by themselves: %v", got)
	}
	if !slices.Equal(things, []int{10, 9, 100, -1}) {
		t.Errorf("the things themselves are changed: %v", things)
	}
	if got := InOrder(slices.Values([]string{}), func(s string) string { return s }); len(got) != 0 {
		t.Errorf("of nothing: %v", got)
	}
}
