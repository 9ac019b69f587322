package block

import (
	"math"
	"math/rand"
	"testing"
)

func TestShift(t *testing.T) {
	for _, c := range []struct {
		what string
		l    []int
		want int
	}{
		{"no numbers", nil, 24},
		{"no numbers, empty", []int{}, 24},
		{"a nought", []int{0}, 24},
		{"noughts", []int{0, 0, 0}, 24},
		{"an odd one", []int{1}, 0},
		{"an odd one below 0", []int{-1}, 0},
		{"odd ones", []int{3, -5, 7}, 0},
		{"an odd one among others", []int{4, 8, 1, 16}, 0},
		{"even ones", []int{2, 4, 6}, 1},
		{"multiples of 4", []int{4, 8}, 2},
		{"multiples of 4, whose sum is of 8", []int{4, 4}, 2},
		{"below 0", []int{-8}, 3},
		{"below 0 and above", []int{-8, 24, -40}, 3},
		{"a nought beside", []int{0, 16, 0}, 4},
		{"the least one last", []int{64, 32, 2}, 1},
		{"the least one first", []int{2, 32, 64}, 1},
		{"23", []int{1 << 23}, 23},
		{"24", []int{1 << 24}, 24},
		{"25", []int{1 << 25}, 24},
		{"25, below 0", []int{-1 << 25, 1 << 26}, 24},
		{"many", []int{1 << 30, 1 << 62}, 24},
		{"the least number", []int{math.MinInt}, 24},
		{"the greatest number", []int{math.MaxInt}, 0},
		{"both ends", []int{math.MinInt, math.MaxInt}, 0},
		{"the least number and 2", []int{math.MinInt, 2}, 1},
	} {
		if n := Shift(c.l); n != c.want {
			t.Errorf("P10.1: %s: Shift of %v: %d, want %d", c.what, c.l, n, c.want)
		}
		if n := shiftWords(c.l); n != c.want {
			t.Errorf("P10.1: %s: by the words Shift of %v is %d, want %d", c.what, c.l, n, c.want)
		}
	}
}

func TestShiftOfEachPower(t *testing.T) {
	for power := range 63 {
		for _, n := range []int{1 << power, -1 << power} {
			if got := Shift([]int{0, n, 0}); got != min(power, 24) {
				t.Errorf("P10.1: Shift of %d: %d", n, got)
			}
		}
	}
}

func TestShiftByTheWords(t *testing.T) {
	rnd := rand.New(rand.NewSource(9))
	for range 5000 {
		l := make([]int, rnd.Intn(6))
		for i := range l {
			l[i] = int(rnd.Uint64()) >> rnd.Intn(64) << rnd.Intn(40)
		}
		if n := Shift(l); n != shiftWords(l) {
			t.Fatalf("P10.1: Shift of %v: %d, want %d", l, n, shiftWords(l))
		}
	}
}

// As many numbers as are no samples any more: it is a call of any numbers.
func TestShiftOfMany(t *testing.T) {
	l := make([]int, 100000)
	if n := Shift(l); n != 24 {
		t.Errorf("P10.1: Shift of many noughts: %d", n)
	}
	l[99999] = 12
	if n := Shift(l); n != 2 {
		t.Errorf("P10.1: Shift of many, 12 at last: %d", n)
	}
}
