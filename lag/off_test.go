package lag

import (
	"math"
	"math/rand"
	"slices"
	"testing"

	"sackbut/api"
)

func TestTheChaptersExample(t *testing.T) {
	term := Term{Lag: 2, Gain: 8}
	if l, e := term.Off([]int{10, 4, 10, 4}); !slices.Equal(l, []int{10, 4, 5, 2}) || e != api.OK {
		t.Errorf("P8.1: Off of 10, 4, 10, 4: %v, %d", l, e)
	}
	if l, e := term.On([]int{10, 4, 5, 2}); !slices.Equal(l, []int{10, 4, 10, 4}) || e != api.OK {
		t.Errorf("P8.1: On of 10, 4, 5, 2: %v, %d", l, e)
	}
}

func TestOff(t *testing.T) {
	for _, c := range []struct {
		what string
		term Term
		l    []int
		want []int
	}{
		{"nothing of no numbers", Term{}, nil, nil},
		{"nothing", Term{}, []int{7, -8, 0}, []int{7, -8, 0}},
		{"nothing, at the ends", Term{}, []int{end, -end}, []int{end, -end}},
		{"no numbers", Term{1, 1}, []int{}, nil},
		{"no numbers, both greatest", Term{255, 15}, nil, nil},
		{"fewer numbers than Lag", Term{4, 15}, []int{16, 32, 48}, []int{16, 32, 48}},
		{"as many as Lag", Term{3, 15}, []int{16, 32, 48}, []int{16, 32, 48}},
		{"one more than Lag", Term{2, 15}, []int{16, 32, 48}, []int{16, 32, 33}},
		{"of the numbers as handed in", Term{1, 8}, []int{16, 16, 16, 16}, []int{16, 8, 8, 8}},
		{"the least gain", Term{1, 1}, []int{15, 0, 16, 0, 31, 0, 32, 0}, []int{15, 0, 16, -1, 31, -1, 32, -2}},
		{"the greatest gain", Term{1, 15}, []int{1, 0, 2, 0, 16, 0}, []int{1, 0, 2, -1, 16, -15}},
		{"below 0, down", Term{1, 1}, []int{-1, 0, -16, 0, -17, 0}, []int{-1, 1, -16, 1, -17, 2}},
		{"below 0, the greatest gain", Term{1, 15}, []int{-1, 0, -2, 0, -16, 0}, []int{-1, 1, -2, 2, -16, 15}},
		{"a half below 0", Term{1, 8}, []int{-1, 0, -3, 0}, []int{-1, 1, -3, 2}},
		{"above 2^40", Term{1, 15}, []int{-end, end}, []int{-end, end + end/16*15}},
		{"below -2^40", Term{1, 15}, []int{end, -end}, []int{end, -end - end/16*15}},
		{"one above 2^40", Term{1, 1}, []int{-1, end}, []int{-1, end + 1}},
		{"one below -2^40", Term{2, 15}, []int{2, 0, -end}, []int{2, 0, -end - 1}},
	} {
		got, e := c.term.Off(c.l)
		if !slices.Equal(got, c.want) || e != api.OK {
			t.Errorf("P8.1: %s: Off by %v of %v: %v, %d, want %v", c.what, c.term, c.l, got, e, c.want)
		}
	}
}

func checkOff(t *testing.T, term Term, l []int) {
	t.Helper()
	got, e := term.Off(l)
	if want, wantErr := offWords(term, l); !slices.Equal(got, want) || e != wantErr {
		t.Fatalf("P8.1: Off by %v of %v: %v, %d, want %v, %d", term, l, got, e, want, wantErr)
	}
}

func TestOffByTheWords(t *testing.T) {
	rnd := rand.New(rand.NewSource(1))
	for range 5000 {
		term := anyTerm(rnd)
		most := []int{1, 20, 1 << 15, 1 << 27, end}[rnd.Intn(5)]
		checkOff(t, term, anyNumbers(rnd, anyCount(rnd, term), most))
	}
}

func TestOffByEachTerm(t *testing.T) {
	rnd := rand.New(rand.NewSource(2))
	for lag := 1; lag <= 255; lag++ {
		for gain := 1; gain <= 15; gain++ {
			checkOff(t, Term{lag, gain}, anyNumbers(rnd, lag+3, end))
		}
	}
}

// What is divided down is every small number, and those around multiples of 16.
func TestProductsDividedDown(t *testing.T) {
	for gain := 1; gain <= 15; gain++ {
		for n := -100; n <= 100; n++ {
			checkOff(t, Term{1, gain}, []int{n, 0})
			checkOff(t, Term{1, gain}, []int{n - end/2, n})
		}
		for _, n := range []int{end, end - 1, -end, -end + 1} {
			checkOff(t, Term{1, gain}, []int{n, 0})
		}
	}
}

// wrongCall is Off or On of a term.
type wrongCall struct {
	name string
	call func(Term, []int) ([]int, api.Errno)
}

func wrongCalls() []wrongCall { return []wrongCall{{"Off", Term.Off}, {"On", Term.On}} }

func outsides() []int {
	return []int{end + 1, -end - 1, end + 2, 1 << 41, -1 << 41, 1 << 59, 1<<60 + 1, math.MaxInt, math.MinInt}
}

// With errors On's are the same as Off's.
func TestTermsThatMayNotBe(t *testing.T) {
	for _, c := range wrongCalls() {
		for _, term := range noTerms() {
			for _, l := range [][]int{nil, {}, {0}, {1, 2, 3}, {end, -end}, {end + 1}, {0, -end - 1}, {math.MinInt}} {
				if got, e := c.call(term, l); len(got) != 0 || e != api.ErrRange {
					t.Errorf("P8.1, R2: %s by %v of %v: %v, %d, want ErrRange alone", c.name, term, l, got, e)
				}
			}
		}
	}
}

func TestNumbersOutside(t *testing.T) {
	for _, c := range wrongCalls() {
		for _, term := range []Term{{}, {1, 1}, {1, 15}, {2, 8}, {4, 15}, {5, 1}, {255, 15}} {
			for _, n := range outsides() {
				for place := range 5 {
					l := make([]int, 5)
					l[place] = n
					if got, e := c.call(term, l); len(got) != 0 || e != api.ErrValue {
						t.Errorf("P8.1: %s by %v of %v: %v, %d, want ErrValue alone", c.name, term, l, got, e)
					}
				}
			}
		}
	}
}

// A number that isn't outside is one at each place, where nothing comes behind
// it that would be outside.
func TestNumbersAtTheEnds(t *testing.T) {
	for _, c := range wrongCalls() {
		for _, term := range []Term{{}, {1, 1}, {1, 15}, {2, 8}, {4, 15}, {5, 1}, {255, 15}} {
			for _, n := range []int{end, -end, end - 1, -end + 1} {
				for place := range 5 {
					l := make([]int, 5)
					l[place] = n
					if got, e := c.call(term, l); len(got) != 5 || e != api.OK {
						t.Errorf("P8.1: %s by %v of %v: %v, %d", c.name, term, l, got, e)
					}
				}
			}
		}
	}
}
