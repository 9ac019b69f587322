package filter

import (
	"math"
	"math/rand"
	"slices"
	"testing"

	"sackbut/api"
)

func TestSamples(t *testing.T) {
	for _, c := range []struct {
		what             string
		index, residuals []int
		most             int
		want             []int
		e                api.Errno
	}{
		{"nothing", nil, nil, 0, nil, api.OK},
		{"no residuals", []int{-64, 63}, []int{}, 5, nil, api.OK},
		{"most 0: 0 and -1", nil, []int{0, -1, 0}, 0, []int{0, -1, 0}, api.OK},
		{"most 0: 1", nil, []int{0, 1}, 0, nil, api.ErrValue},
		{"most 0: -2", nil, []int{0, -2}, 0, nil, api.ErrValue},
		{"most 7: both ends", nil, []int{-8, 7}, 7, []int{-8, 7}, api.OK},
		{"most 7: one above", nil, []int{-8, 8}, 7, nil, api.ErrValue},
		{"most 7: one below", nil, []int{7, -9}, 7, nil, api.ErrValue},
		{"most 2^26: both ends", nil, []int{1 << 26, -1<<26 - 1}, 1 << 26, []int{1 << 26, -1<<26 - 1}, api.OK},
		{"most 2^26: one above", nil, []int{1<<26 + 1}, 1 << 26, nil, api.ErrValue},
		{"most 2^26: one below", nil, []int{-1<<26 - 2}, 1 << 26, nil, api.ErrValue},
		{"it is the sample that counts", []int{-64}, []int{7, -15, 15}, 7, []int{7, -8, 7}, api.OK},
		{"above behind others", []int{-64}, []int{5, 2, 1}, 7, nil, api.ErrValue},
		{"below behind others", []int{-64}, []int{-5, -3, -1}, 7, nil, api.ErrValue},
		{"back again is too late", []int{-64}, []int{5, 3, -3}, 7, nil, api.ErrValue},
		{"two indices", []int{-64, -64}, []int{10, 2, 0, 0, 1}, 19, []int{10, 12, 14, 16, 19}, api.OK},
		{"two indices, above at last", []int{-64, -64}, []int{10, 2, 0, 0, 1}, 18, nil, api.ErrValue},
		{"from the end below", []int{-64}, []int{-1<<26 - 1, 0, 1<<27 + 1}, 1 << 26, []int{-1<<26 - 1, -1<<26 - 1, 1 << 26}, api.OK},
	} {
		got, e := Samples(c.index, c.residuals, c.most)
		if !slices.Equal(got, c.want) || e != c.e {
			t.Errorf("P7.1: %s: Samples(%v, %v, %d): %v, %d, want %v, %d", c.what, c.index, c.residuals, c.most, got, e, c.want, c.e)
		}
	}
}

func checkSamples(t *testing.T, index, residuals []int, most int) api.Errno {
	t.Helper()
	got, e := Samples(index, residuals, most)
	if want, wantErr := samplesWords(index, residuals, most); !slices.Equal(got, want) || e != wantErr {
		t.Fatalf("P7.1: Samples(%v, %v, %d): %v, %d, want %v, %d", index, residuals, most, got, e, want, wantErr)
	}
	return e
}

func TestSamplesByTheWords(t *testing.T) {
	rnd := rand.New(rand.NewSource(2))
	right, wrong := 0, 0
	for range 6000 {
		most := []int{0, 7, 1<<15 - 1, 1<<23 - 1, 1 << 26}[rnd.Intn(5)]
		index := tameList(rnd, rnd.Intn(api.MaxOrder+1))
		residuals := make([]int, rnd.Intn(2*api.MaxOrder))
		for i := range residuals {
			residuals[i] = (rnd.Intn(2*most+2) - most - 1) / (1 + rnd.Intn(4))
		}
		if checkSamples(t, index, residuals, most) == api.OK {
			right++
		} else {
			wrong++
		}
	}
	if right < 500 || wrong < 500 {
		t.Errorf("P7.1: %d lists have samples, %d have none", right, wrong)
	}
}

// The last sample is at an end, or one beyond it, and each other one within.
func TestSamplesAtTheEnds(t *testing.T) {
	rnd := rand.New(rand.NewSource(3))
	for range 2000 {
		most := []int{0, 1, 7, 1<<15 - 1, 1<<26 - 1, 1 << 26}[rnd.Intn(6)]
		index := anyList(rnd, rnd.Intn(api.MaxOrder+1))
		samples := anySamples(rnd, 1+rnd.Intn(25), most)
		last := len(samples) - 1
		for _, c := range []struct {
			x int
			e api.Errno
		}{{most, api.OK}, {most + 1, api.ErrValue}, {-most - 1, api.OK}, {-most - 2, api.ErrValue}} {
			samples[last] = c.x
			if e := checkSamples(t, index, residualsWords(index, samples), most); e != c.e {
				t.Fatalf("P7.1: a last sample of %d by most %d: %d, want %d", c.x, most, e, c.e)
			}
		}
	}
}

func TestMost(t *testing.T) {
	for _, most := range []int{0, 1, 1<<26 - 1, 1 << 26} {
		if l, e := Samples(nil, []int{0, most, -most - 1}, most); !slices.Equal(l, []int{0, most, -most - 1}) || e != api.OK {
			t.Errorf("P7.1: most %d: %v, %d", most, l, e)
		}
	}
	for _, most := range []int{-1, -2, 1<<26 + 1, 1 << 27, math.MinInt, math.MaxInt} {
		for _, residuals := range [][]int{nil, {0}, {1 << 61}, {0, -1 << 61}} {
			if l, e := Samples([]int{-64}, residuals, most); len(l) != 0 || e != api.ErrRange {
				t.Errorf("P7.1, R2: Samples of %v, most %d: %v, %d, want ErrRange alone", residuals, most, l, e)
			}
		}
	}
}

func TestSamplesOfNoIndexList(t *testing.T) {
	for _, index := range noLists() {
		for _, residuals := range [][]int{nil, {0}, {1, 2, 3}, {8}, {1<<60 + 1}} {
			for _, most := range []int{7, -1, 1<<26 + 1} {
				if l, e := Samples(index, residuals, most); len(l) != 0 || e != api.ErrRange {
					t.Errorf("P7.1, R2: Samples(%v, %v, %d): %v, %d, want ErrRange alone", index, residuals, most, l, e)
				}
			}
		}
	}
}

// A residual of 2^60 may be one, but there is no sample that has it: its error
// is the sample's.
func TestResidualsThatAreFar(t *testing.T) {
	for _, far := range []int{1 << 60, 1<<60 + 1, 1 << 62, math.MaxInt, -1 << 60, -1<<60 - 1, -1 << 62, math.MinInt} {
		for place := range 20 {
			for _, index := range [][]int{nil, {-64}, {63, 63}, slices.Repeat([]int{-64}, 16)} {
				residuals := make([]int, 20)
				residuals[place] = far
				if e := checkSamples(t, index, residuals, 1<<26); e != api.ErrValue {
					t.Errorf("P7.1: a residual of %d at %d: %d, want ErrValue", far, place, e)
				}
			}
		}
	}
	for _, c := range []struct {
		r      int
		tooFar bool
	}{
		{0, false}, {1 << 60, false}, {-1 << 60, false}, {1<<60 + 1, true}, {-1<<60 - 1, true},
		{math.MaxInt, true}, {math.MinInt, true},
	} {
		if isTooFar(c.r) != c.tooFar {
			t.Errorf("P7.1: is %d too far for a residual: %v", c.r, !c.tooFar)
		}
	}
}
