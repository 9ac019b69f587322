package filter

import (
	"math"
	"math/rand"
	"slices"
	"testing"

	"sackbut/api"
	"sackbut/wide"
)

// growing is an index list whose predictions go farther off with each index,
// where samples turn from one end to the other one.
func growing() []int {
	return append([]int{-64, -64}, slices.Repeat([]int{-64, 63}, 7)...)
}

func TestLeast(t *testing.T) {
	for _, c := range []struct {
		what           string
		index, samples []int
		want           int
	}{
		{"nothing", nil, nil, 0},
		{"no indices", nil, []int{5, 5, 5}, 0},
		{"one index, no samples", []int{-64}, nil, 0},
		{"sixteen indices, no samples", make([]int, 16), []int{}, 0},
		{"one sample: all the same", []int{-64, -64}, []int{5}, 0},
		{"samples of 0: all the same", []int{-64, -64, 3}, []int{0, 0, 0, 0}, 0},
		{"one index is better", []int{-64}, []int{5, 6}, 1},
		{"one index is worse", []int{-64}, []int{5, -6}, 0},
		{"one index is the same", []int{-64}, []int{6, 3}, 0},
		{"below 0, the same", []int{-64}, []int{-6, -3}, 0},
		{"the second one adds nothing", []int{-64, -64}, []int{5, 5, 5, 5}, 1},
		{"the second one is better", []int{-64, -64}, []int{1, 2, 3, 4, 5, 6}, 2},
		{"the second one can't be better of two samples", []int{-64, -64}, []int{7, 8}, 1},
		{"the third one, of squares", []int{-64, -64, -64}, []int{100, 121, 144, 169, 196, 225, 256}, 3},
		{"the first one is worse, but both are better", []int{63, 63}, []int{9, 0, 9, 0, 9, 0, 9}, 2},
		{"it is sizes that are summed", []int{-64}, []int{10, -10, 10, -10}, 0},
	} {
		if got := Least(c.index, c.samples); got != c.want {
			t.Errorf("P7.1: %s: Least(%v, %v): %d, want %d", c.what, c.index, c.samples, got, c.want)
		}
	}
}

// The last of sixteen indices is the one that is better: what comes again 16
// samples later is foreseen by it alone.
func TestLeastOfAllIndices(t *testing.T) {
	index := append(append([]int{27, 27}, make([]int, 13)...), -64)
	var samples []int
	for range 20 {
		samples = append(samples, 100, -70, 50, 90, -80, 30, 20, -95, 60, -10, 5, 85, -45, 75, -15, -65)
	}
	sums := sumsWords(index, samples)
	want, _ := leastWords(sums)
	if got := Least(index, samples); got != want || want != 16 {
		t.Errorf("P7.1: Least: %d, want %d, which must be 16: %v", got, want, sums)
	}
}

func TestLeastByTheWords(t *testing.T) {
	rnd := rand.New(rand.NewSource(8))
	ties, seen := 0, map[int]int{}
	for round := range 3000 {
		most := []int{1, 7, 1 << 15, 1 << 26}[rnd.Intn(4)]
		index := tameList(rnd, rnd.Intn(api.MaxOrder+1))
		if rnd.Intn(2) == 0 {
			index = anyList(rnd, rnd.Intn(api.MaxOrder+1))
		}
		samples := anySamples(rnd, rnd.Intn(30), most)
		if round%2 == 0 {
			samples = foreseenBy(rnd, index, 40)
		}
		want, tie := leastWords(sumsWords(index, samples))
		if got := Least(index, samples); got != want {
			t.Fatalf("P7.1: Least(%v, %v): %d, want %d", index, samples, got, want)
		}
		if tie {
			ties++
		}
		seen[want]++
	}
	if ties < 100 {
		t.Errorf("P7.1: two numbers have the same sum in %d lists only", ties)
	}
	for n := range api.MaxOrder + 1 {
		if seen[n] == 0 {
			t.Errorf("P7.1: the least is never %d", n)
		}
	}
}

// foreseenBy are samples whose residuals by an index list are small, as far as
// they are samples.
func foreseenBy(rnd *rand.Rand, index []int, count int) []int {
	residuals := make([]int, count)
	for i := range residuals {
		residuals[i] = rnd.Intn(9) - 4
		if i < 4 {
			residuals[i] *= 1000
		}
	}
	for {
		if l, e := Samples(index, residuals, 1<<26-1); e == api.OK {
			return l
		}
		residuals = residuals[1:]
	}
}

// The sum by all indices is just above 2^64: one that wraps round would be the
// least.
func TestLeastOfSumsThatHaveNoRoomIn64Bits(t *testing.T) {
	index := growing()
	few, e := Residuals(index, slices.Repeat([]int{1 << 26, -1 << 26}, 20))
	if e != api.OK {
		t.Fatal(e)
	}
	far := max(few[39], -few[39])
	if far < 1<<41 {
		t.Fatalf("P7.1: the farthest residual is %d", far)
	}
	count := math.MaxUint64/uint64(far) + 20
	samples := slices.Repeat([]int{1 << 26, -1 << 26}, int(count+1)/2)
	wrapped := uint64(0)
	all, _ := Residuals(index, samples)
	for _, r := range all {
		wrapped += uint64(max(r, -r))
	}
	if wrapped >= uint64(len(samples))<<26 {
		t.Fatalf("P7.1: a sum that wraps round is %d", wrapped)
	}
	if got := Least(index, samples); got != 0 {
		t.Errorf("P7.1: Least of %d samples: %d, want 0", len(samples), got)
	}
}

func TestSizes(t *testing.T) {
	l := []int{math.MinInt, 5, math.MaxInt, 0, -7}
	tell := func(place int) int { return l[place] }
	for count, want := range []wide.Sum{{}, {Low: 1 << 63}, {Low: 1<<63 + 5}, {High: 1, Low: 4}, {High: 1, Low: 4}, {High: 1, Low: 11}} {
		if got := sizes(count, tell); got != want {
			t.Errorf("P7.1: the sum of the first %d sizes: %v, want %v", count, got, want)
		}
	}
}

// Of such arguments nothing is promised but that the call ends.
func TestLeastOfOthers(t *testing.T) {
	for _, index := range noLists() {
		if got := Least(index, []int{5, 5}); got != 0 {
			t.Errorf("P7: Least by %v: %d, want 0", index, got)
		}
	}
	ends := []int{math.MinInt, math.MaxInt, 1<<26 + 1, -1<<26 - 1, 0}
	for _, x := range ends {
		for _, y := range ends {
			if n := Least([]int{-64, 63, 5}, []int{x, y, x, y, y}); n < 0 || n > 3 {
				t.Errorf("P7: Least of %d and %d: %d", x, y, n)
			}
		}
	}
}
