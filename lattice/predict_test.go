package lattice

import (
	"math"
	"math/big"
	"math/rand"
	"slices"
	"testing"

	"sackbut/api"
)

func TestRound(t *testing.T) {
	for _, c := range [][2]int{
		{0, 0}, {1, 0}, {-1, 0},
		{8191, 0}, {8192, 1}, {8193, 1},
		{-8191, 0}, {-8192, 0}, {-8193, -1},
		{16383, 1}, {16384, 1}, {16385, 1}, {-16383, -1}, {-16384, -1}, {-16385, -1},
		{24575, 1}, {24576, 2}, {24577, 2},
		{-24575, -1}, {-24576, -1}, {-24577, -2},
		{1<<60 + 8191, 1 << 46}, {1<<60 + 8192, 1<<46 + 1},
		{-1<<60 - 8192, -1 << 46}, {-1<<60 - 8193, -1<<46 - 1},
	} {
		if got := Round(c[0]); got != c[1] {
			t.Errorf("P6.1: Round(%d): %d, want %d", c[0], got, c[1])
		}
	}
}

func TestRoundByTheWords(t *testing.T) {
	check := func(p int) {
		if want := roundWords(big.NewInt(int64(p))); !want.IsInt64() || int64(Round(p)) != want.Int64() {
			t.Fatalf("P6.1: Round(%d): %d, want %v", p, Round(p), want)
		}
	}
	for p := -70000; p <= 70000; p++ {
		check(p)
	}
	for p := range 20000 {
		check(math.MinInt + p)
		check(math.MaxInt - p)
	}
	rnd := rand.New(rand.NewSource(6))
	for range 100000 {
		p := int(rnd.Uint64()) >> rnd.Intn(60)
		check(p)
		check(p&^16383 | 8192)
		check(p&^16383 | 8191)
	}
}

func TestPredict(t *testing.T) {
	for _, c := range []struct {
		what        string
		coefs, past []int
		want        int
	}{
		{"the chapter's example", Coefs([]int{0}), []int{100}, 50},
		{"neither coefficients nor samples", nil, nil, 0},
		{"no coefficients", nil, []int{5, 6}, 0},
		{"no samples", []int{-16384, 16384}, nil, 0},
		{"as many samples", []int{-32768, 16384}, []int{2, 7}, 12},
		{"more samples", []int{-32768, 16384}, []int{1000, 2, 7}, 12},
		{"fewer samples", []int{-32768, 16384}, []int{7}, 14},
		{"fewer samples by two", []int{-16384, 16384, 16384}, []int{4}, 4},
		{"the last one first", []int{-16384, 0, 0}, []int{1, 2, 3}, 3},
		{"the first one last", []int{0, 0, -16384}, []int{1, 2, 3}, 1},
		{"a half below 0, its sign turned", []int{-8192}, []int{3}, 1},
		{"a half, its sign turned", []int{8192}, []int{3}, -2},
		{"just below a half", []int{8191}, []int{1}, 0},
		{"a half of one", []int{8192}, []int{1}, -1},
		{"a half of less than none", []int{8192}, []int{-1}, 0},
		{"just less than that", []int{8193}, []int{-1}, 1},
		{"rounded once, not one by one", []int{4096, 4096}, []int{1, 1}, -1},
		{"rounded once, from parts that are a half each", []int{8192, 8192}, []int{1, 1}, -1},
		{"ends of both", []int{1 << 30}, []int{1 << 26}, -1 << 42},
		{"ends below 0", []int{1 << 30}, []int{-1 << 26}, 1 << 42},
		{"sixteen of each end", slices.Repeat([]int{1 << 30}, 16), slices.Repeat([]int{1 << 26}, 16), -1 << 46},
		{"sixteen of each end below 0", slices.Repeat([]int{-1 << 30}, 16), slices.Repeat([]int{1 << 26}, 16), 1 << 46},
	} {
		if got := Predict(c.coefs, c.past); got != c.want {
			t.Errorf("P6.1: %s: Predict(%v, %v): %d, want %d", c.what, c.coefs, c.past, got, c.want)
		}
	}
}

func TestTheChaptersExample(t *testing.T) {
	l := []int{0}
	if k, a := Reflect(l), Coefs(l); !slices.Equal(k, []int{-8192}) || !slices.Equal(a, []int{-8192}) || Predict(a, []int{100}) != 50 {
		t.Errorf("P6.1: of the index 0: %v, %v, %d", k, a, Predict(a, []int{100}))
	}
}

func TestPredictByTheWords(t *testing.T) {
	rnd := rand.New(rand.NewSource(7))
	for order := range api.MaxOrder + 1 {
		for count := range 2*api.MaxOrder + 1 {
			for range 5 {
				coefs, past := Coefs(anyList(rnd, order)), anySamples(rnd, count)
				if got, want := Predict(coefs, past), predictWords(coefs, past); got != want {
					t.Fatalf("P6.1: Predict(%v, %v): %d, want %d", coefs, past, got, want)
				}
			}
		}
	}
}

func TestPredictFromManySamples(t *testing.T) {
	past := make([]int, api.MaxSamples)
	past[len(past)-1], past[len(past)-2], past[len(past)-3] = 9, 4, 77
	if got := Predict([]int{-32768, 16384}, past); got != 14 {
		t.Errorf("P6.1: the prediction from many samples: %d, want 14", got)
	}
}

// Of such numbers nothing is promised but that the call ends.
func TestPredictFromWhatIsNoSample(t *testing.T) {
	ends := []int{math.MinInt, math.MaxInt, -1, 0, 1}
	for _, a := range ends {
		for _, x := range ends {
			Predict([]int{a, a, a}, []int{x, x})
			Predict([]int{a}, []int{x, a})
		}
	}
}
