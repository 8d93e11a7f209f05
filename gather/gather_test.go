package gather

import (
	"maps"
	"slices"
	"testing"
)

func TestCount(t *testing.T) {
	if n := Count(slices.Values([]string{})); n != 0 {
		t.Errorf("of nothing: %d", n)
	}
	if n := Count(slices.Values([]string{"a", "b", "a"})); n != 3 {
		t.Errorf("of three texts: %d", n)
	}
	if n := Count(maps.Keys(map[int]int{7: 1, 8: 1})); n != 2 {
		t.Errorf("of two numbers: %d", n)
	}
}
