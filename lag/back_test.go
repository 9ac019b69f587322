package lag

import (
	"math/rand"
	"slices"
	"testing"

	"sackbut/api"
)

// checkOffBack tells whether what Off leaves are numbers: then they come back.
func checkOffBack(t *testing.T, term Term, l []int) bool {
	t.Helper()
	left, e := term.Off(l)
	if e != api.OK {
		t.Fatalf("P8.1: Off by %v of %v: %d", term, l, e)
	}
	back, e := term.On(left)
	if hasOutsideWords(left) {
		if len(back) != 0 || e != api.ErrValue {
			t.Fatalf("P8.1: On by %v of %v: %v, %d, want ErrValue alone", term, left, back, e)
		}
		return false
	}
	if !slices.Equal(back, l) || e != api.OK {
		t.Fatalf("P8.2: On of Off by %v: %v, %d, want %v", term, back, e, l)
	}
	return true
}

// checkOnBack tells whether there are numbers of which these are left: then
// these are left.
func checkOnBack(t *testing.T, term Term, l []int) bool {
	t.Helper()
	numbers, e := term.On(l)
	if e != api.OK {
		return false
	}
	if left, e := term.Off(numbers); !slices.Equal(left, l) || e != api.OK {
		t.Fatalf("P8.2: Off of On by %v: %v, %d, want %v", term, left, e, l)
	}
	return true
}

func TestNumbersComeBackByEachTerm(t *testing.T) {
	rnd := rand.New(rand.NewSource(5))
	terms := []Term{{}}
	for lag := 1; lag <= 255; lag++ {
		for gain := 1; gain <= 15; gain++ {
			terms = append(terms, Term{lag, gain})
		}
	}
	for _, term := range terms {
		for _, most := range []int{20, end / 2} {
			if l := anyNumbers(rnd, 3*term.Lag+5, most); !checkOffBack(t, term, l) {
				t.Fatalf("P8.2: Off by %v of %v is outside", term, l)
			}
		}
		if l := anyNumbers(rnd, 3*term.Lag+5, end/16); !checkOnBack(t, term, l) {
			t.Fatalf("P8.2: On by %v of %v is outside", term, l)
		}
	}
}

func TestNumbersComeBackWithLagAndGainAtTheirEnds(t *testing.T) {
	rnd := rand.New(rand.NewSource(6))
	offs, ons := 0, 0
	for _, term := range []Term{{}, {1, 1}, {1, 15}, {255, 1}, {255, 15}} {
		for _, most := range []int{0, 1, 20, 1 << 26, end/16*10 + 3, end} {
			for count := range 40 {
				for _, n := range []int{count, 240 + count, 500 + count} {
					l := anyNumbers(rnd, n, most)
					if checkOffBack(t, term, l) {
						offs++
					}
					if checkOnBack(t, term, l) {
						ons++
					}
				}
			}
		}
	}
	if offs < 2000 || ons < 2000 {
		t.Errorf("P8.2: %d lists come back of Off, %d of On", offs, ons)
	}
}

func TestManyNumbersComeBack(t *testing.T) {
	rnd := rand.New(rand.NewSource(7))
	l := anyNumbers(rnd, api.MaxSamples, end/2)
	for _, term := range []Term{{}, {1, 15}, {255, 1}, {255, 15}} {
		if !checkOffBack(t, term, l) {
			t.Errorf("P8.2: Off by %v is outside", term)
		}
	}
	quiet := anyNumbers(rnd, api.MaxSamples, end/16)
	for _, term := range []Term{{}, {1, 15}, {255, 1}, {255, 15}} {
		if !checkOnBack(t, term, quiet) {
			t.Errorf("P8.2: On by %v is outside", term)
		}
	}
}
