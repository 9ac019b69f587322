package lag

import (
	"math/rand"
	"slices"
	"testing"

	"sackbut/api"
)

func TestOn(t *testing.T) {
	for _, c := range []struct {
		what string
		term Term
		l    []int
		want []int
		e    api.Errno
	}{
		{"nothing of no numbers", Term{}, nil, nil, api.OK},
		{"nothing", Term{}, []int{7, -8, 0}, []int{7, -8, 0}, api.OK},
		{"nothing, at the ends", Term{}, []int{end, -end}, []int{end, -end}, api.OK},
		{"no numbers", Term{255, 15}, []int{}, nil, api.OK},
		{"fewer numbers than Lag", Term{4, 15}, []int{16, 32, 48}, []int{16, 32, 48}, api.OK},
		{"as many as Lag", Term{3, 15}, []int{16, 32, 48}, []int{16, 32, 48}, api.OK},
		{"one more than Lag", Term{2, 15}, []int{16, 32, 33}, []int{16, 32, 48}, api.OK},
		{"of the numbers that come out", Term{1, 8}, []int{16, 8, 8, 8}, []int{16, 16, 16, 16}, api.OK},
		{"again and again", Term{1, 8}, []int{64, 0, 0, 0}, []int{64, 32, 16, 8}, api.OK},
		{"below 0, down", Term{1, 1}, []int{-1, 0, 0}, []int{-1, -1, -1}, api.OK},
		{"the greatest gain", Term{2, 15}, []int{16, -16, 0, 0, 0, 0}, []int{16, -16, 15, -15, 14, -15}, api.OK},
		{"just 2^40", Term{1, 8}, []int{end, end / 2}, []int{end, end}, api.OK},
		{"one above", Term{1, 8}, []int{end, end/2 + 1}, nil, api.ErrValue},
		{"just -2^40", Term{1, 8}, []int{-end, -end / 2}, []int{-end, -end}, api.OK},
		{"one below", Term{1, 8}, []int{-end, -end/2 - 1}, nil, api.ErrValue},
		{"one above by the least gain", Term{1, 1}, []int{16, end}, nil, api.ErrValue},
		{"just 2^40 by the least gain", Term{1, 1}, []int{15, end}, []int{15, end}, api.OK},
		{"one below by the least gain", Term{1, 1}, []int{-1, -end}, nil, api.ErrValue},
		{"just -2^40 by the least gain", Term{1, 1}, []int{0, -end}, []int{0, -end}, api.OK},
		{"outside at first, at last within", Term{1, 15}, []int{end, end, -end}, nil, api.ErrValue},
		{"outside, then nothing", Term{1, 15}, []int{end, end, 0, 0}, nil, api.ErrValue},
		{"outside at last", Term{2, 15}, []int{0, end, 0, end}, nil, api.ErrValue},
	} {
		got, e := c.term.On(c.l)
		if !slices.Equal(got, c.want) || e != c.e {
			t.Errorf("P8.1: %s: On by %v of %v: %v, %d, want %v, %d", c.what, c.term, c.l, got, e, c.want, c.e)
		}
	}
}

func checkOn(t *testing.T, term Term, l []int) api.Errno {
	t.Helper()
	got, e := term.On(l)
	if want, wantErr := onWords(term, l); !slices.Equal(got, want) || e != wantErr {
		t.Fatalf("P8.1: On by %v of %v: %v, %d, want %v, %d", term, l, got, e, want, wantErr)
	}
	return e
}

func TestOnByTheWords(t *testing.T) {
	rnd := rand.New(rand.NewSource(3))
	right, wrong := 0, 0
	for range 6000 {
		term := anyTerm(rnd)
		most := []int{20, 1 << 27, end / 4, end}[rnd.Intn(4)]
		if checkOn(t, term, anyNumbers(rnd, anyCount(rnd, term), most)) == api.OK {
			right++
		} else {
			wrong++
		}
	}
	if right < 1000 || wrong < 300 {
		t.Errorf("P8.1: %d lists have numbers, %d have none", right, wrong)
	}
}

// What comes out last is at an end, or one beyond it, and each other one within.
// Each that is handed in is within.
func TestOnAtTheEnds(t *testing.T) {
	rnd := rand.New(rand.NewSource(4))
	right, wrong := 0, 0
	for range 3000 {
		term := anyTerm(rnd)
		l := anyNumbers(rnd, 1+anyCount(rnd, term), end/2)
		last := len(l) - 1
		left, _ := offWords(term, l)
		for _, c := range []struct {
			n int
			e api.Errno
		}{{end, api.OK}, {end + 1, api.ErrValue}, {-end, api.OK}, {-end - 1, api.ErrValue}} {
			left[last] = c.n - takenWords(term, l, last)
			if hasOutsideWords(left) {
				continue
			}
			if e := checkOn(t, term, left); e != c.e {
				t.Fatalf("P8.1: %d comes out last by %v: %d, want %d", c.n, term, e, c.e)
			}
			if c.e == api.OK {
				right++
			} else {
				wrong++
			}
		}
	}
	if right < 1000 || wrong < 1000 {
		t.Errorf("P8.1: %d lists have an end at last, %d one beyond it", right, wrong)
	}
}
