package filter

import (
	"math"
	"math/rand"
	"slices"
	"testing"

	"sackbut/api"
)

func TestTheChaptersExample(t *testing.T) {
	l, e := Residuals([]int{-64}, []int{5, 7, 7})
	if !slices.Equal(l, []int{5, 2, 0}) || e != api.OK {
		t.Errorf("P7.1: the residuals of 5, 7, 7: %v, %d", l, e)
	}
	l, e = Samples([]int{-64}, []int{5, 2, 0}, 7)
	if !slices.Equal(l, []int{5, 7, 7}) || e != api.OK {
		t.Errorf("P7.1: the samples of 5, 2, 0: %v, %d", l, e)
	}
}

func TestResiduals(t *testing.T) {
	for _, c := range []struct {
		what           string
		index, samples []int
		want           []int
	}{
		{"neither indices nor samples", nil, nil, nil},
		{"no indices", []int{}, []int{4, -5, 0, 6}, []int{4, -5, 0, 6}},
		{"no samples", []int{-64}, []int{}, nil},
		{"no samples, many indices", make([]int, 16), nil, nil},
		{"one index, one sample", []int{-64}, []int{9}, []int{9}},
		{"one index", []int{-64}, []int{9, 8, 8, -3}, []int{9, -1, 0, -11}},
		{"a half", []int{0}, []int{100, 100, 51}, []int{100, 50, 1}},
		{"halves, rounded", []int{0}, []int{3, 3, -3, -3}, []int{3, 2, -4, -1}},
		{"two indices: none, then one, then both", []int{-64, -64}, []int{10, 12, 14, 16, 19}, []int{10, 2, 0, 0, 1}},
		{"two indices, one sample", []int{-64, -64}, []int{10}, []int{10}},
		{"two indices, two samples", []int{-64, -64}, []int{10, 12}, []int{10, 2}},
		{"three indices, of squares", []int{-64, -64, -64}, []int{0, 1, 4, 9, 16, 25}, []int{0, 1, 2, 0, 0, 0}},
	} {
		got, e := Residuals(c.index, c.samples)
		if !slices.Equal(got, c.want) || e != api.OK {
			t.Errorf("P7.1: %s: Residuals(%v, %v): %v, %d, want %v", c.what, c.index, c.samples, got, e, c.want)
		}
	}
}

func checkResiduals(t *testing.T, index, samples []int) {
	t.Helper()
	got, e := Residuals(index, samples)
	if want := residualsWords(index, samples); !slices.Equal(got, want) || e != api.OK {
		t.Fatalf("P7.1: Residuals(%v, %v): %v, %d, want %v", index, samples, got, e, want)
	}
}

func TestResidualsByTheWords(t *testing.T) {
	rnd := rand.New(rand.NewSource(1))
	for order := range api.MaxOrder + 1 {
		for count := range 2*api.MaxOrder + 3 {
			for _, most := range []int{0, 7, 1 << 15, 1 << 26} {
				checkResiduals(t, anyList(rnd, order), anySamples(rnd, count, most))
				checkResiduals(t, tameList(rnd, order), anySamples(rnd, count, most))
			}
		}
	}
}

func TestResidualsAtTheEndsOfAll(t *testing.T) {
	high, low := slices.Repeat([]int{1 << 26}, 40), slices.Repeat([]int{-1 << 26}, 40)
	turning := slices.Repeat([]int{1 << 26, -1 << 26}, 20)
	for _, index := range [][]int{
		nil, {-64}, {63}, {-64, -64}, {-64, 63}, {63, -64}, {63, 63},
		slices.Repeat([]int{-64}, 16), slices.Repeat([]int{63}, 16),
		slices.Repeat([]int{-64, 63}, 8), slices.Repeat([]int{63, -64}, 8),
		growing(),
	} {
		for _, samples := range [][]int{high, low, turning} {
			checkResiduals(t, index, samples)
		}
	}
}

func TestWhatIsASample(t *testing.T) {
	for _, x := range []int{-1 << 26, 1<<26 - 1, -1<<26 + 1, 1 << 26, 0} {
		for place := range 4 {
			samples := make([]int, 4)
			samples[place] = x
			checkResiduals(t, nil, samples)
			checkResiduals(t, []int{-64, 5}, samples)
		}
	}
	for _, x := range []int{-1<<26 - 1, 1<<26 + 1, -1 << 27, 1 << 27, math.MinInt, math.MaxInt} {
		for place := range 4 {
			samples := make([]int, 4)
			samples[place] = x
			for _, index := range [][]int{nil, {-64}, {0, 0}, make([]int, 16)} {
				if l, e := Residuals(index, samples); len(l) != 0 || e != api.ErrValue {
					t.Errorf("P7.1: Residuals(%v, %v): %v, %d, want ErrValue alone", index, samples, l, e)
				}
			}
		}
	}
}

func TestResidualsOfNoIndexList(t *testing.T) {
	for _, index := range noLists() {
		for _, samples := range [][]int{nil, {0}, {1, 2, 3}, {1<<26 + 1}, {0, -1<<26 - 1}} {
			if l, e := Residuals(index, samples); len(l) != 0 || e != api.ErrRange {
				t.Errorf("P7.1, R2: Residuals(%v, %v): %v, %d, want ErrRange alone", index, samples, l, e)
			}
		}
	}
}

func TestWhatAnIndexListMayBe(t *testing.T) {
	for _, index := range [][]int{nil, {}, {-64}, {63}, {0, -64}, {0, 63}, {0, 0, -64}, {0, 0, 63}, make([]int, 16)} {
		checkResiduals(t, index, []int{3, 1, 4, 1, 5})
		if _, e := Samples(index, nil, 0); e != api.OK {
			t.Errorf("P7.1: Samples by %v: %d", index, e)
		}
	}
}
