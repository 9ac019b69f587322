package weft

import (
	"math/rand"
	"testing"

	"sackbut/api"
)

func TestBest(t *testing.T) {
	none := [3]int{}
	here := func(g int) [3]int { return [3]int{0, g, 0} }
	for _, c := range []struct {
		what        string
		own, master []int
		want        [3]int
	}{
		{"no numbers", nil, nil, none},
		{"none of them", []int{}, []int{}, none},
		{"numbers of 0", []int{0, 0}, []int{0, 0}, none},
		{"a channel of 0", []int{0, 0}, []int{16, 32}, none},
		{"a master of 0", []int{16, 32}, []int{0, 0}, none},
		{"a half", []int{8, 16, -8}, []int{16, 32, -16}, here(8)},
		{"a 16th", []int{1, 2, -1}, []int{16, 32, -16}, here(1)},
		{"15 16ths", []int{15, 30, -15}, []int{16, 32, -16}, here(15)},
		{"the same", []int{16, 32}, []int{16, 32}, here(15)},
		{"more than the same", []int{160, 320}, []int{16, 32}, here(15)},
		{"of the other sign", []int{-8, -16}, []int{16, 32}, none},
		{"one alone", []int{5}, []int{16}, here(5)},
		{"one alone below 0", []int{-5}, []int{-16}, here(5)},
		{"samples at both ends", []int{lowest, highest}, []int{lowest, highest}, here(15)},
		{"samples at both ends, of the other sign", []int{lowest, highest}, []int{highest, lowest}, none},
		{"a half of the ends", []int{lowest / 2, highest / 2}, []int{lowest, highest}, here(8)},

		{"one as good as none", []int{1}, []int{32}, none},
		{"all as good as none", []int{0, 0}, []int{0, 0}, none},
		{"the least of two", []int{5}, []int{8}, here(10)},
		{"the least of all", []int{-1}, []int{-1}, here(1)},
		{"the least of those that leave nothing", []int{1}, []int{2}, here(8)},
		{"the least of two, one below, one above", []int{15}, []int{32}, here(7)},
		{"the least of 1 and 2", []int{3}, []int{32}, here(1)},
		{"each is worse than none", []int{-7, 8, -8}, []int{16, 16, 16}, none},
		{"down, not towards 0", []int{-1, -1}, []int{-1, -1}, here(1)},
		{"a sum, not each", []int{16, 16, -1}, []int{16, 16, 16}, here(15)},
		{"a sum, the least of many", []int{16, 1}, []int{16, 16}, here(1)},
		{"a sum as good as none", []int{16, -16}, []int{16, 16}, none},
		{"a sum of sizes", []int{100, -100}, []int{100, 100}, none},
	} {
		if got := Best(c.own, c.master); got != c.want {
			t.Errorf("P11.1: %s: Best of %v by %v: %v, want %v", c.what, c.own, c.master, got, c.want)
		}
		checkBest(t, c.own, c.master)
	}
}

func checkBest(t *testing.T, own, master []int) (best [3]int, tie bool) {
	t.Helper()
	best, tie = bestWords(own, master)
	if got := Best(own, master); got != best {
		t.Fatalf("P11.1: Best of %v by %v: %v, want %v", own, master, got, best)
	}
	return best, tie
}

func TestBestByTheWords(t *testing.T) {
	rnd := rand.New(rand.NewSource(6))
	found := map[int]int{}
	noneTies, someTies := 0, 0
	for range 6000 {
		n, most := rnd.Intn(5), []int{1, 3, 20, 32767, highest}[rnd.Intn(5)]
		best, tie := checkBest(t, quiet(rnd, n, most), quiet(rnd, n, most))
		checkBest(t, anySamples(rnd, n), anySamples(rnd, n))
		found[best[1]]++
		if tie && best[1] == 0 {
			noneTies++
		} else if tie {
			someTies++
		}
	}
	if len(found) != 16 || noneTies < 100 || someTies < 100 {
		t.Errorf("P11.1: %d gains are best; none is as good as others %d times, some %d times", len(found), noneTies, someTies)
	}
}

// alike is a channel that is so many 16ths of its master, and little else.
func alike(rnd *rand.Rand, g, count int) (own, master []int) {
	master = anySamples(rnd, count)
	master[0] = 1 << 22
	own = foreseenWords(api.Weave{Gains: [3]int{0, g, 0}}, master)
	for i := range own {
		own[i] = min(max(own[i]+rnd.Intn(5)-2, lowest), highest)
	}
	return own, master
}

func TestBestOfWhatIsAlike(t *testing.T) {
	rnd := rand.New(rand.NewSource(7))
	for g := 1; g <= 15; g++ {
		for _, count := range []int{1, 2, 3, 40, 1024} {
			own, master := alike(rnd, g, count)
			if best, _ := checkBest(t, own, master); best != [3]int{0, g, 0} {
				t.Errorf("P11.1: Best of %d 16ths, %d numbers: %v", g, count, best)
			}
		}
	}
	own, master := alike(rnd, 11, api.MaxSamples)
	if best, _ := checkBest(t, own, master); best != [3]int{0, 11, 0} {
		t.Errorf("P11.1: Best of 11 16ths, many numbers: %v", best)
	}
}

// Of such numbers nothing is promised but that the call ends.
func TestBestOfNoTwoChannels(t *testing.T) {
	lists := unlike()
	for _, n := range noSamples() {
		lists = append(lists, [2][]int{{16, n}, {16, 16}}, [2][]int{{16, 16}, {n, 16}}, [2][]int{{n, n}, {n, n}})
	}
	for _, l := range lists {
		if got := Best(l[0], l[1]); got != [3]int{} {
			t.Errorf("P7: Best of %v by %v: %v, want none", l[0], l[1], got)
		}
	}
}
