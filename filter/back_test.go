package filter

import (
	"math/rand"
	"slices"
	"testing"

	"sackbut/api"
)

func checkBack(t *testing.T, index, samples []int, most int) {
	t.Helper()
	residuals, e := Residuals(index, samples)
	if e != api.OK {
		t.Fatalf("P7.1: Residuals(%v, %v): %d", index, samples, e)
	}
	got, e := Samples(index, residuals, most)
	if !slices.Equal(got, samples) || e != api.OK {
		t.Fatalf("P7.2: Samples of Residuals by %v: %v, %d, want %v", index, got, e, samples)
	}
	again, e := Residuals(index, got)
	if !slices.Equal(again, residuals) || e != api.OK {
		t.Fatalf("P7.2: Residuals of Samples by %v: %v, %d, want %v", index, again, e, residuals)
	}
}

func TestSamplesComeBack(t *testing.T) {
	rnd := rand.New(rand.NewSource(4))
	for order := range api.MaxOrder + 1 {
		for count := range 2*api.MaxOrder + 3 {
			for _, most := range []int{0, 1, 7, 1<<15 - 1, 1<<24 - 1, 1<<26 - 1, 1 << 26} {
				checkBack(t, anyList(rnd, order), anySamples(rnd, count, most), most)
			}
		}
	}
}

func TestSamplesComeBackByIndicesAtTheirEnds(t *testing.T) {
	rnd := rand.New(rand.NewSource(5))
	for _, order := range []int{1, 2, 3, 8} {
		eachEnds(order, func(index []int) { checkBack(t, index, anySamples(rnd, 2*order+1, 1<<26), 1<<26) })
	}
	some := anySamples(rnd, 40, 1<<26)
	eachEnds(api.MaxOrder, func(index []int) { checkBack(t, index, some, 1<<26) })
}

func TestManySamplesComeBack(t *testing.T) {
	rnd := rand.New(rand.NewSource(6))
	samples := anySamples(rnd, api.MaxSamples, 1<<26)
	for _, index := range [][]int{nil, {-64}, anyList(rnd, api.MaxOrder)} {
		checkBack(t, index, samples, 1<<26)
	}
}

func TestResidualsComeBack(t *testing.T) {
	rnd := rand.New(rand.NewSource(7))
	right := 0
	for range 5000 {
		index := tameList(rnd, rnd.Intn(api.MaxOrder+1))
		if rnd.Intn(2) == 0 {
			index = anyList(rnd, rnd.Intn(3))
		}
		residuals := make([]int, rnd.Intn(30))
		for i := range residuals {
			residuals[i] = rnd.Intn(1<<24) - 1<<23
		}
		samples, e := Samples(index, residuals, 1<<26-1)
		if e != api.OK {
			continue
		}
		right++
		if again, e := Residuals(index, samples); !slices.Equal(again, residuals) || e != api.OK {
			t.Fatalf("P7.2: Residuals of Samples by %v: %v, %d, want %v", index, again, e, residuals)
		}
	}
	if right < 1000 {
		t.Errorf("P7.2: %d lists only have samples", right)
	}
}

// -2^26 - 1 is what Samples may answer, and no sample of Residuals.
func TestOneBelowAllSamples(t *testing.T) {
	samples, e := Samples(nil, []int{-1<<26 - 1}, 1<<26)
	if !slices.Equal(samples, []int{-1<<26 - 1}) || e != api.OK {
		t.Fatalf("P7.1: one below all samples: %v, %d", samples, e)
	}
	if l, e := Residuals(nil, samples); len(l) != 0 || e != api.ErrValue {
		t.Errorf("P7.1: its residuals: %v, %d, want ErrValue alone", l, e)
	}
}
