package rice

import (
	"math"
	"math/rand"
	"slices"
	"testing"
)

func TestTotal(t *testing.T) {
	for _, c := range []struct {
		l       []int
		k, want int
	}{
		{nil, 0, 0}, {[]int{}, 24, 0},
		{[]int{0}, 0, 1}, {[]int{0}, 24, 25},
		{[]int{0, -1, 1, -2}, 0, 10},
		{[]int{5, 5, -1}, 2, 13},
		{[]int{-12, 12}, 0, 83},
		{[]int{least, greatest}, 24, 118},
		{[]int{0, greatest + 1, 0, least - 1}, 0, 2}, // what has no code costs 0
		{[]int{0, 1, 2}, -1, 0}, {[]int{0, 1, 2}, 25, 0},
		{[]int{0, 1, 2}, math.MinInt, 0}, {[]int{0, 1, 2}, math.MaxInt, 0},
	} {
		if got := Total(c.l, c.k); got != c.want {
			t.Errorf("P2.1: Total(%v, %d): %d, want %d", c.l, c.k, got, c.want)
		}
	}
}

func TestBest(t *testing.T) {
	for _, c := range []struct {
		name    string
		l       []int
		k, cost int
	}{
		{"nil", nil, 0, 0},
		{"none", []int{}, 0, 0},
		{"one 0", []int{0}, 0, 1},
		{"0 alone", []int{0, 0, 0}, 0, 3},
		{"one -1: 2 bits under 0 and 1", []int{-1}, 0, 2},
		{"one 1: 3 bits under 0, 1 and 2", []int{1}, 0, 3},
		{"one 5: 5 bits under 2 and 3", []int{5}, 2, 5},
		{"6 bits under 0 and 1", []int{-1, -1, -1}, 0, 6},
		{"8 bits under 1 and 2", []int{1, -2, -1}, 1, 8},
		{"the least one", []int{least}, 0, 59},
		{"the greatest one", []int{greatest}, 0, 59},
		{"whole under each", []int{least, greatest, least}, 0, 177},
		{"under 24 alone it isn't whole", []int{-24 << 23}, 24, 48},
		{"a total that rises, then falls", []int{0, 23 << 19}, 23, 50},
	} {
		if k, cost := Best(c.l); k != c.k || cost != c.cost {
			t.Errorf("P2.1: Best of %s: %d, %d, want %d, %d", c.name, k, cost, c.k, c.cost)
		}
	}
}

func TestTotalsFallAgain(t *testing.T) {
	l := []int{0, 23 << 19}
	if Total(l, 0) >= Total(l, 1) || Total(l, 0) <= Total(l, 23) {
		t.Errorf("P2.1: totals that don't rise and fall: %d, %d, %d", Total(l, 0), Total(l, 1), Total(l, 23))
	}
}

// plainBest goes through all parameters, by the chapter's words.
func plainBest(l []int) (int, int) {
	key, least := 0, -1
	for k := range 25 {
		sum := 0
		for _, n := range l {
			sum += len(wordsOf(n, k))
		}
		if least < 0 || sum < least {
			key, least = k, sum
		}
	}
	return key, least
}

func checkBest(t *testing.T, l []int) (tie bool) {
	t.Helper()
	k, cost := Best(l)
	if wantKey, wantCost := plainBest(l); k != wantKey || cost != wantCost {
		t.Fatalf("P2.1: Best(%v): %d, %d, want %d, %d", l, k, cost, wantKey, wantCost)
	}
	if Total(l, k) != cost {
		t.Fatalf("P2.1: Best(%v): %d, but Total is %d", l, cost, Total(l, k))
	}
	for more := k + 1; more < 25; more++ {
		tie = tie || Total(l, more) == cost
	}
	return tie
}

func TestBestByTheWords(t *testing.T) {
	for _, n := range numbers() {
		checkBest(t, []int{n})
	}
	rnd, ties := rand.New(rand.NewSource(3)), 0
	for range 5000 {
		l, bits := make([]int, rnd.Intn(12)), rnd.Intn(35)
		for i := range l {
			l[i] = Unfold(rnd.Intn(1 << bits))
			if rnd.Intn(9) == 0 {
				l[i] = anyNumber(rnd)
			}
		}
		if checkBest(t, l) {
			ties++
		}
	}
	if ties < 100 {
		t.Errorf("P2.1: two parameters cost the same in %d lists only", ties)
	}
}

func TestBestOfManyNumbers(t *testing.T) {
	rnd := rand.New(rand.NewSource(4))
	for _, bits := range []int{4, 20, 34} {
		l := make([]int, 100000)
		for i := range l {
			l[i] = Unfold(rnd.Intn(1 << bits))
		}
		k, cost := Best(l)
		for other := range 25 {
			if sum := Total(l, other); sum < cost || sum == cost && other < k {
				t.Errorf("P2.1: Best: %d, %d, but under %d: %d", k, cost, other, sum)
			}
		}
		if Total(l, k) != cost {
			t.Errorf("P2.1: Best: %d, %d, but Total is %d", k, cost, Total(l, k))
		}
	}
}

func TestListsStay(t *testing.T) {
	room := []int{9, -4, 1 << 30, 0, least, 77, -77}
	kept := slices.Clone(room)
	l := room[:5]
	k, cost := Best(l)
	Total(l, 3)
	if !slices.Equal(room, kept) {
		t.Errorf("R6: what was handed in: %v, want %v", room, kept)
	}
	for range 3 {
		if againKey, again := Best(l); againKey != k || again != cost {
			t.Errorf("R8: Best again: %d, %d, want %d, %d", againKey, again, k, cost)
		}
	}
}
