package lattice

import (
	"math/rand"
	"slices"
	"testing"

	"sackbut/api"
)

func TestSteps(t *testing.T) {
	for _, c := range []struct {
		l    []int
		want [][]int
	}{
		{nil, [][]int{nil}},
		{[]int{}, [][]int{nil}},
		{[]int{0}, [][]int{nil, {-8192}}},
		{[]int{0, 0, 2}, [][]int{nil, {-8192}, {-12288, 8192}, {-12032, 7808, 512}}},
	} {
		if got := stepsOf(t, c.l); !same(got, c.want) {
			t.Errorf("P6.1: Steps(%v): %v, want %v", c.l, got, c.want)
		}
	}
}

func TestAListsBeginningHasTheCoefficientsOfSteps(t *testing.T) {
	rnd := rand.New(rand.NewSource(5))
	for range 500 {
		l := anyList(rnd, rnd.Intn(api.MaxOrder+1))
		steps := stepsOf(t, l)
		if len(steps) != len(l)+1 {
			t.Fatalf("P6.1: Steps(%v) gives %d lists", l, len(steps))
		}
		for n, coefs := range steps {
			if beginning := Coefs(l[:n]); !slices.Equal(coefs, beginning) {
				t.Fatalf("P6.2: step %d of %v: %v, its beginning's coefficients are %v", n, l, coefs, beginning)
			}
			if want := coefsWords(l[:n]); !slices.Equal(coefs, want) {
				t.Fatalf("P6.1: step %d of %v: %v, want %v", n, l, coefs, want)
			}
		}
	}
}

func TestStepsEndAsSoonAsTheyAreToldTo(t *testing.T) {
	l := make([]int, api.MaxOrder)
	for stop := range len(l) + 1 {
		asked := 0
		Steps(l)(func(n int, _ []int) bool {
			asked++
			return n != stop
		})
		if asked != stop+1 {
			t.Errorf("P6.2: told to end at %d, %d steps were given", stop, asked)
		}
	}
}

func TestStepsAreGivenAsOftenAsTheyAreGoneThrough(t *testing.T) {
	l := []int{-60, -50, 5, -6, 63}
	steps, want := Steps(l), stepsOf(t, l)
	for range 3 {
		var got [][]int
		for _, coefs := range steps {
			got = append(got, coefs)
		}
		if !same(got, want) {
			t.Errorf("R9: gone through again, Steps gives %v, want %v", got, want)
		}
		// One that ends early must not shorten the next.
		for n := range steps {
			if n == 2 {
				break
			}
		}
	}
}

func TestStepsGoneThroughWithinThemselves(t *testing.T) {
	l := []int{-60, -50, 5, -6, 63}
	steps, want := Steps(l), stepsOf(t, l)
	for n, coefs := range steps {
		for m, others := range steps {
			if !slices.Equal(others, want[m]) {
				t.Fatalf("R9: within step %d, step %d is %v, want %v", n, m, others, want[m])
			}
		}
		if !slices.Equal(coefs, want[n]) {
			t.Fatalf("R9: step %d is %v, want %v", n, coefs, want[n])
		}
	}
}
