package weft

import (
	"math"
	"math/rand"
	"testing"

	"sackbut/api"
)

func TestGoodOfAWeaveThatIsNone(t *testing.T) {
	for _, channels := range []int{1, 2, 8, 9, 0, -1, math.MinInt, math.MaxInt} {
		if !Good(api.Weave{}, channels) {
			t.Errorf("P11.1: none isn't good among %d", channels)
		}
		for _, n := range []int{1, -1, 2, 7, 8, 15, -16, 1 << 32, math.MinInt, math.MaxInt} {
			for field, w := range []api.Weave{{Master: n}, {Gains: [3]int{n, 0, 0}}, {Gains: [3]int{0, n, 0}}, {Gains: [3]int{0, 0, n}}} {
				if Good(w, channels) {
					t.Errorf("P11.1: none, with %d in field %d, is good among %d", n, field, channels)
				}
			}
		}
	}
}

func TestGoodOfMasters(t *testing.T) {
	for _, c := range []struct {
		master, channels int
		want             bool
	}{
		{0, 1, true}, {1, 1, false}, {-1, 1, false},
		{0, 2, true}, {1, 2, true}, {2, 2, false}, {3, 2, false}, {-1, 2, false},
		{6, 7, true}, {7, 7, false},
		{0, 8, true}, {7, 8, true}, {8, 8, false}, {-1, 8, false},
		{7, 9, true}, {8, 9, false}, {9, 9, false},
		{7, 99, true}, {8, 99, false}, {98, 99, false},
		{7, math.MaxInt, true}, {8, math.MaxInt, false}, {-1, math.MaxInt, false},
		{0, 0, false}, {-1, 0, false}, {1, 0, false},
		{0, -1, false}, {-1, -1, false}, {-2, -1, false}, {7, -8, false},
		{0, math.MinInt, false}, {-1, math.MinInt, false}, {math.MinInt, math.MinInt, false},
		{math.MinInt, 8, false}, {math.MaxInt, 8, false}, {math.MinInt, math.MaxInt, false}, {1 << 32, 8, false},
	} {
		if got := Good(some(c.master, 0, 1, 0), c.channels); got != c.want {
			t.Errorf("P11.1: is one of master %d good among %d: %t", c.master, c.channels, got)
		}
	}
}

func TestGoodOfGains(t *testing.T) {
	for _, c := range []struct {
		gain int
		want bool
	}{
		{-16, true}, {-15, true}, {-1, true}, {1, true}, {14, true}, {15, true},
		{-17, false}, {16, false}, {-18, false}, {17, false}, {31, false}, {32, false}, {-32, false},
		{1 << 32, false}, {-1 << 32, false}, {math.MinInt, false}, {math.MaxInt, false},
	} {
		for place := range 3 {
			alone, among := some(1, 0, 0, 0), some(1, 3, -3, 3)
			alone.Gains[place], among.Gains[place] = c.gain, c.gain
			if Good(alone, 2) != c.want || Good(among, 2) != c.want {
				t.Errorf("P11.1: are Gains %v, %v good: %t, %t", alone.Gains, among.Gains, Good(alone, 2), Good(among, 2))
			}
		}
	}
	for master := range 8 {
		if Good(some(master, 0, 0, 0), 8) {
			t.Errorf("P11.1: three Gains of 0, by master %d, are good", master)
		}
	}
}

func TestGoodByTheWords(t *testing.T) {
	ends := []int{-17, -16, -1, 0, 1, 15, 16}
	for master := -2; master < 11; master++ {
		for channels := -2; channels < 12; channels++ {
			for i := range len(ends) * len(ends) * len(ends) {
				w := some(master, ends[i/49], ends[i/7%7], ends[i%7])
				if i%2 == 0 {
					w.Some = false
				}
				if Good(w, channels) != goodWords(w, channels) {
					t.Fatalf("P11.1: is %v good among %d: %t", w, channels, Good(w, channels))
				}
			}
		}
	}
	rnd := rand.New(rand.NewSource(1))
	for range 2000 {
		w := anyWeave(rnd)
		if channels := rnd.Intn(10); !Good(w, 8) || Good(w, channels) != goodWords(w, channels) {
			t.Fatalf("P11.1: is %v good among %d: %t", w, channels, Good(w, channels))
		}
	}
	for _, w := range noWeaves() {
		for _, channels := range []int{8, 1, 9, 0, -1, math.MinInt, math.MaxInt} {
			if Good(w, channels) {
				t.Errorf("P11.1: %v is good among %d", w, channels)
			}
		}
	}
}

// All that may be said in bits: of three Gains of 0 there is none.
func TestHowManyAreGood(t *testing.T) {
	count := 0
	for n := range 1 << 15 {
		if Good(some(7, n%32-16, n/32%32-16, n/1024-16), 8) {
			count++
		}
	}
	if count != 1<<15-1 {
		t.Errorf("P11.1: of master 7 there are %d that are good", count)
	}
}
