package tree

import (
	"math"
	"testing"
)

func TestMay(t *testing.T) {
	for size := -70; size <= 1100; size++ {
		for left := -2; left <= 5; left++ {
			if got, want := May(size, left), mayWords(size, left); got != want {
				t.Errorf("P9.1: May %d, %d: %t, want %t", size, left, got, want)
			}
		}
	}
}

func TestMayAtTheEdges(t *testing.T) {
	for _, c := range []struct {
		size, left int
		want       bool
	}{
		{32, 1, true}, {32, 4, true}, {64, 1, true}, {96, 2, true}, {1024, 1, true}, {992, 3, true},
		{32, 0, false}, {1024, 0, false}, {32, -1, false}, {32, math.MinInt, false},
		{16, 4, false}, {31, 4, false}, {33, 4, false}, {48, 4, false}, {1008, 4, false}, {1, 1, false},
		{0, 4, false}, {0, 0, false}, {-32, 4, false}, {-64, 0, false}, {math.MinInt, 4, false},
		{1056, 4, false}, {2048, 1, false}, {1 << 40, 4, false},
	} {
		if got := May(c.size, c.left); got != c.want {
			t.Errorf("P9.1: May %d, %d: %t, want %t", c.size, c.left, got, c.want)
		}
	}
}
