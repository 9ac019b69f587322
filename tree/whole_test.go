package tree

import (
	"math"
	"strings"
	"testing"
)

// wholeWords is the one of all trees that is two wherever it may, down to a
// depth: no leaf of it that isn't so deep may be two.
func wholeWords(t *testing.T, size, depth int) string {
	t.Helper()
	var found []string
	for _, x := range allOf(size).list {
		whole := true
		for i, path := range x.paths {
			deep := len(path)
			whole = whole && deep <= depth && (deep == depth || !mayWords(x.leaves[i], 4-deep))
		}
		if whole {
			found = append(found, x.text)
		}
	}
	if len(found) != 1 {
		t.Fatalf("of size %d and depth %d there are, by the words: %q", size, depth, found)
	}
	return found[0]
}

func TestWhole(t *testing.T) {
	for size := 1; size <= 1024; size++ {
		for depth := range 7 {
			if text, want := Whole(size, depth), wholeWords(t, size, depth); text != want {
				t.Errorf("P9.1: Whole %d, %d: %q, want %q", size, depth, text, want)
			}
		}
	}
}

func TestWholeAtTheEdges(t *testing.T) {
	for _, c := range []struct {
		size, depth int
		want        string
	}{
		{1, 0, ""}, {1, 4, ""}, {16, 0, ""}, {16, 4, ""}, {33, 4, ""}, {1023, 9, ""},
		{32, 0, "0"}, {32, 1, "1"}, {32, 4, "1"}, {32, math.MaxInt, "1"},
		{48, 3, ""}, {96, 0, "0"}, {96, 1, "1"}, {96, 2, "1"},
		{64, 0, "0"}, {64, 1, "100"}, {64, 2, "111"}, {64, 3, "111"},
		{128, 2, "1100100"}, {128, 3, "1111111"}, {992, 1, "1"}, {960, 1, "100"}, {960, 2, "111"},
		{512, 4, strings.Repeat("1", 15)}, {512, 5, strings.Repeat("1", 15)},
		{1024, 0, "0"}, {1024, 1, "100"}, {1024, 2, "1100100"},
		{1024, 3, "111001001100100"},
		{1024, 4, strings.Repeat("1", 15)},
		{1024, 5, strings.Repeat("1", 15)},
		{1024, 1 << 40, strings.Repeat("1", 15)},
	} {
		if text := Whole(c.size, c.depth); text != c.want {
			t.Errorf("P9.1: Whole %d, %d: %q, want %q", c.size, c.depth, text, c.want)
		}
	}
}

// A size outside has no tree, and so no text.
func TestWholeOfASizeOutside(t *testing.T) {
	for _, size := range outside() {
		for _, depth := range []int{0, 1, 4, 9} {
			if text := Whole(size, depth); text != "" {
				t.Errorf("P7: Whole %d, %d: %q", size, depth, text)
			}
		}
	}
}
