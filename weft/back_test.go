package weft

import (
	"math"
	"math/rand"
	"slices"
	"testing"

	"sackbut/api"
)

// checkBackBy holds Back against the words.
func checkBackBy(t *testing.T, what string, w api.Weave, rest, master []int, most int) ([]int, api.Errno) {
	t.Helper()
	want, wantErr := backWords(w, rest, master, most)
	if got, e := Back(w, rest, master, most); !slices.Equal(got, want) || e != wantErr {
		t.Fatalf("P11.1: %s: Back by %v of %v by %v, most %d: %v, %d, want %v, %d", what, w, rest, master, most, got, e, want, wantErr)
	}
	return want, wantErr
}

func TestBack(t *testing.T) {
	for _, c := range []struct {
		what               string
		w                  api.Weave
		rest, master, want []int
		most               int
	}{
		{"the chapter's", some(0, 0, 15, 0), []int{1, 2}, []int{16, 32}, []int{16, 32}, 32},
		{"no numbers", some(0, 1, 2, 3), nil, nil, nil, 0},
		{"no numbers, none", api.Weave{}, nil, nil, nil, highest},
		{"none: the rest", api.Weave{}, []int{1, -2, lowest, highest}, []int{5, 6, lowest, 8}, []int{1, -2, lowest, highest}, highest},
		{"samples of 0 and -1 alone", some(0, 0, 15, 0), []int{-15, -16}, []int{16, 16}, []int{0, -1}, 0},
		{"one alone, by its place", some(0, 0, 15, 0), []int{-143}, []int{160}, []int{7}, 7},
		{"one alone, by the others", some(0, 15, 0, -16), []int{7}, []int{160}, []int{7}, 7},
		{"three, by all three", some(0, 1, 2, 3), []int{68, -221, -110}, []int{16, 160, 1600}, []int{100, 100, 100}, 100},
		{"below 0, down", some(0, 0, 1, 0), []int{0, 0, 0}, []int{-1, -16, -17}, []int{-1, -1, -2}, 1},
		{"the least rests", some(0, -16, -16, -16), []int{3 * lowest, 4 * lowest, 3 * lowest}, []int{lowest, lowest, lowest}, []int{lowest, lowest, lowest}, highest},
		{"the greatest rests", some(0, -16, -16, -16), []int{3 * highest, 4 * highest, 3 * highest}, []int{highest, highest, highest}, []int{highest, highest, highest}, highest},
	} {
		if got, e := Back(c.w, c.rest, c.master, c.most); !slices.Equal(got, c.want) || e != api.OK {
			t.Errorf("P11.1: %s: Back by %v of %v by %v: %v, %d, want %v", c.what, c.w, c.rest, c.master, got, e, c.want)
		}
		checkBackBy(t, c.what, c.w, c.rest, c.master, c.most)
	}
}

func TestBackByTheWords(t *testing.T) {
	rnd := rand.New(rand.NewSource(3))
	count := map[api.Errno]int{}
	for range 6000 {
		n, most := rnd.Intn(6), []int{0, 5, 127, 32767, highest - 1, highest}[rnd.Intn(6)]
		w, master := anyWeave(rnd), quiet(rnd, n, most)
		if rnd.Intn(4) == 0 {
			master = anySamples(rnd, n)
		}
		_, e := checkBackBy(t, "any rest", w, quiet(rnd, n, most), master, most)
		count[e]++
	}
	if count[api.OK] < 1000 || count[api.ErrValue] < 1000 {
		t.Errorf("P11.1: of any rest there is a channel %d times, none %d times", count[api.OK], count[api.ErrValue])
	}
}

// outsideMosts are none that samples may have.
func outsideMosts() []int {
	return []int{-1, highest + 1, -2, lowest, 1 << 24, 1 << 32, 1<<32 + 1, math.MinInt, math.MaxInt}
}

func TestBackByAWeaveThatIsNotGood(t *testing.T) {
	for _, w := range noWeaves() {
		lists := append(unlike(), [2][]int{}, [2][]int{{1, 2}, {3, 4}}, [2][]int{{highest + 1}, {3}}, [2][]int{{3}, {lowest - 1}})
		for _, l := range lists {
			for _, most := range []int{0, highest, -1, highest + 1} {
				if got, e := Back(w, l[0], l[1], most); len(got) != 0 || e != api.ErrForm {
					t.Fatalf("P11.1: Back by %v of %v by %v, most %d: %v, %d, want ErrForm alone", w, l[0], l[1], most, got, e)
				}
			}
		}
	}
}

func TestBackOfUnlikeLengths(t *testing.T) {
	for _, w := range []api.Weave{{}, some(0, 0, 1, 0), some(7, -16, 15, 1)} {
		for _, l := range unlike() {
			for _, most := range append(outsideMosts(), 0, 5, highest) {
				if got, e := Back(w, l[0], l[1], most); len(got) != 0 || e != api.ErrShape {
					t.Errorf("P11.1: Back by %v of %v by %v, most %d: %v, %d, want ErrShape alone", w, l[0], l[1], most, got, e)
				}
			}
		}
	}
}

func TestBackOfAMostOutside(t *testing.T) {
	for _, w := range []api.Weave{{}, some(0, 0, 1, 0)} {
		for _, most := range outsideMosts() {
			for _, l := range [][2][]int{{}, {{1, 2}, {3, 4}}, {{math.MaxInt}, {3}}, {{3}, {highest + 1}}, {{0}, {lowest - 1}}, {{math.MinInt}, {math.MinInt}}} {
				if got, e := Back(w, l[0], l[1], most); len(got) != 0 || e != api.ErrRange {
					t.Errorf("P11.1: Back by %v of %v by %v, most %d: %v, %d, want ErrRange alone", w, l[0], l[1], most, got, e)
				}
			}
		}
		for _, most := range []int{0, 1, highest - 1, highest} {
			if got, e := Back(w, []int{0, -1}, []int{0, 0}, most); !slices.Equal(got, []int{0, -1}) || e != api.OK {
				t.Errorf("P11.1: Back by %v, most %d: %v, %d", w, most, got, e)
			}
		}
	}
}

func TestBackByAMasterOfNoSamples(t *testing.T) {
	rest, m := []int{1, 2, 3, 4, 5}, []int{6, 7, 8, 9, 10}
	for _, w := range []api.Weave{{}, some(0, 0, 1, 0), some(0, 1, 0, 0), some(0, 0, 0, 1), some(0, 0, 1, -1)} {
		for place := range m {
			for _, n := range noSamples() {
				for _, most := range []int{highest, 0} {
					if got, e := Back(w, rest, with(m, place, n), most); len(got) != 0 || e != api.ErrValue {
						t.Errorf("P11.1: Back by %v by %d at %d, most %d: %v, %d, want ErrValue alone", w, n, place, most, got, e)
					}
				}
			}
			// The master has all samples, whatever most is.
			for _, n := range []int{lowest, highest} {
				checkBackBy(t, "a master's at an end", w, rest, with(m, place, n), highest)
				checkBackBy(t, "a master's at an end, beyond most", w, rest, with(m, place, n), 5)
			}
		}
	}
	if got, e := Back(api.Weave{}, []int{1}, []int{highest}, 1); !slices.Equal(got, []int{1}) || e != api.OK {
		t.Errorf("P11.1: Back by a master beyond most: %v, %d", got, e)
	}
}

func TestBackOfSamplesAtMost(t *testing.T) {
	for _, w := range []api.Weave{{}, some(0, 3, 5, -7), some(0, 15, 15, 15), some(0, -16, -16, -16)} {
		for _, most := range []int{0, 1, 127, 32767, highest - 1, highest} {
			master := []int{most, -most - 1, 5 % (most + 1), most, -most - 1}
			foreseen := foreseenWords(w, master)
			for place := range master {
				for n, want := range map[int]api.Errno{most: api.OK, most + 1: api.ErrValue, -most - 1: api.OK, -most - 2: api.ErrValue} {
					rest := make([]int, len(master))
					for i := range rest {
						rest[i] = -foreseen[i]
					}
					rest[place] += n
					if _, e := checkBackBy(t, "at most", w, rest, master, most); e != want {
						t.Fatalf("P11.1: Back by %v to %d at %d, most %d: %d, want %d", w, n, place, most, e, want)
					}
				}
			}
		}
	}
}

// Rests so great that a sum of them wraps round.
func TestBackOfTheGreatestRests(t *testing.T) {
	greats := []int{math.MaxInt, math.MinInt, math.MaxInt - 1, math.MinInt + 1, 1 << 62, -1 << 62, 1 << 32, -1 << 32, 1 << 33, 5 * highest, 5 * lowest}
	for k := range 40 {
		greats = append(greats, math.MaxInt-k*lowest/-8, math.MinInt-k*lowest/8)
	}
	for _, w := range []api.Weave{{}, some(0, 0, 15, 0), some(0, 0, -16, 0), some(0, -16, -16, -16), some(0, 15, 15, 15)} {
		for _, at := range []int{highest, lowest, 0, 16, -16} {
			for _, n := range greats {
				for place := range 3 {
					for _, most := range []int{0, 5, highest} {
						master := []int{at, at, at}
						if got, e := Back(w, with([]int{0, 0, 0}, place, n), master, most); len(got) != 0 || e != api.ErrValue {
							t.Fatalf("P11.1: Back by %v of %d at %d by %v, most %d: %v, %d, want ErrValue alone", w, n, place, master, most, got, e)
						}
					}
					checkBackBy(t, "a great rest", w, with([]int{0, 0, 0}, place, n), []int{at, at, at}, highest)
				}
			}
		}
	}
}

// All that may be wrong, in each mixture: the first one that the words name is
// answered.
func TestTheOrderOfErrors(t *testing.T) {
	for wrong := range 32 {
		w, rest, master, most := some(1, 0, 15, 0), []int{1, 2}, []int{16, 32}, 40
		want := api.OK
		if wrong&16 != 0 {
			rest, want = []int{1, 40}, api.ErrValue
		}
		if wrong&8 != 0 {
			master, want = []int{16, highest + 1}, api.ErrValue
		}
		if wrong&4 != 0 {
			most, want = -1, api.ErrRange
		}
		if wrong&2 != 0 {
			master, want = append(master, 3), api.ErrShape
		}
		if wrong&1 != 0 {
			w, want = some(1, 0, 16, 0), api.ErrForm
		}
		if _, e := Back(w, rest, master, most); e != want {
			t.Errorf("P11.1: Back by %v of %v by %v, most %d: %d, want %d", w, rest, master, most, e, want)
		}
		if wrong&20 != 0 {
			continue
		}
		if _, e := Rest(w, rest, master); e != want {
			t.Errorf("P11.1: Rest by %v of %v by %v: %d, want %d", w, rest, master, e, want)
		}
	}
}

func checkComesBack(t *testing.T, w api.Weave, own, master []int, most int) {
	t.Helper()
	rest, e := Rest(w, own, master)
	if e != api.OK {
		t.Fatalf("P11.2: Rest by %v of %v by %v: %d", w, own, master, e)
	}
	if got, e := Back(w, rest, master, most); !slices.Equal(got, own) || e != api.OK {
		t.Fatalf("P11.2: Back by %v of Rest by %v: %v, %d, want %v", w, master, got, e, own)
	}
}

func TestBackOfRestIsTheChannel(t *testing.T) {
	rnd := rand.New(rand.NewSource(4))
	for range 3000 {
		n := rnd.Intn(20)
		checkComesBack(t, anyWeave(rnd), anySamples(rnd, n), anySamples(rnd, n), highest)
		most := rnd.Intn(1 << rnd.Intn(23))
		checkComesBack(t, anyWeave(rnd), quiet(rnd, n, most), anySamples(rnd, n), most)
	}
	for _, n := range []int{1024, api.MaxSamples} {
		checkComesBack(t, anyWeave(rnd), anySamples(rnd, n), anySamples(rnd, n), highest)
	}
}

// By all Gains at their ends and at 0, of samples at theirs.
func TestBackOfRestAtTheEnds(t *testing.T) {
	ends, gains := []int{lowest, highest, 0, -1}, []int{-16, 0, 15}
	for k := range 27 {
		w := some(k%8, gains[k%3], gains[k/3%3], gains[k/9])
		if w.Gains == [3]int{} {
			w = api.Weave{}
		}
		for i := range 256 {
			own := []int{ends[i%4], ends[i/4%4]}
			checkComesBack(t, w, own, []int{ends[i/16%4], ends[i/64]}, highest)
			checkComesBack(t, w, own[:1], []int{ends[i/16%4]}, highest)
		}
	}
}

// What Best finds is good, and the channel comes back of it.
func TestBackOfRestByTheBest(t *testing.T) {
	rnd := rand.New(rand.NewSource(5))
	for range 500 {
		own, master := alike(rnd, 1+rnd.Intn(15), 1+rnd.Intn(40))
		w := api.Weave{Some: true, Gains: Best(own, master)}
		if w.Gains == [3]int{} {
			w = api.Weave{}
		}
		checkComesBack(t, w, own, master, highest)
	}
}
