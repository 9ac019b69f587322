package block

import (
	"math"
	"math/rand"
	"slices"
	"testing"

	"sackbut/api"
)

func TestPlain(t *testing.T) {
	for _, c := range []struct {
		what string
		l    []int
		d    int
		want api.Block
		e    api.Errno
	}{
		{"noughts", []int{0, 0}, 8, api.Block{}, api.OK},
		{"one nought", []int{0}, 8, api.Block{}, api.OK},
		{"many noughts", make([]int, 1024), 26, api.Block{}, api.OK},
		{"all the same", []int{3, 3}, 8, api.Block{Kind: api.Const, Value: 3}, api.OK},
		{"one", []int{-1}, 8, api.Block{Kind: api.Const, Value: -1}, api.OK},
		{"all the greatest", []int{127, 127}, 8, api.Block{Kind: api.Const, Value: 127}, api.OK},
		{"all the least", []int{-128, -128}, 8, api.Block{Kind: api.Const, Value: -128}, api.OK},
		{"another one", []int{3, 4}, 8, api.Block{Kind: api.Raw, Data: []int{3, 4}}, api.OK},
		{"a nought first", []int{0, 1}, 8, api.Block{Kind: api.Raw, Data: []int{0, 1}}, api.OK},
		{"a nought last", []int{1, 0}, 8, api.Block{Kind: api.Raw, Data: []int{1, 0}}, api.OK},
		{"one and its other sign", []int{5, -5}, 8, api.Block{Kind: api.Raw, Data: []int{5, -5}}, api.OK},
		{"another one in between", []int{3, 2, 3}, 8, api.Block{Kind: api.Raw, Data: []int{3, 2, 3}}, api.OK},
		{"none", nil, 8, api.Block{}, api.ErrRange},
		{"none, empty", []int{}, 8, api.Block{}, api.ErrRange},
		{"none, no depth", nil, 7, api.Block{}, api.ErrRange},
		{"too many", make([]int, 1025), 8, api.Block{}, api.ErrRange},
		{"too many that are none", slices.Repeat([]int{200}, 1025), 8, api.Block{}, api.ErrRange},
		{"no depth, no sample", []int{1 << 40}, 27, api.Block{}, api.ErrRange},
		{"beyond", []int{128}, 8, api.Block{}, api.ErrValue},
		{"beyond, all the same", []int{128, 128}, 8, api.Block{}, api.ErrValue},
		{"below", []int{0, -129}, 8, api.Block{}, api.ErrValue},
		{"the least number", []int{math.MinInt, 0}, 8, api.Block{}, api.ErrValue},
		{"the greatest number", []int{0, 0, math.MaxInt}, 26, api.Block{}, api.ErrValue},
	} {
		if b, e := Plain(c.l, c.d); !same(b, c.want) || e != c.e {
			t.Errorf("P10.1: %s: Plain of %v, d %d: %v, %d, want %v, %d", c.what, c.l, c.d, b, e, c.want, c.e)
		}
		checkPlain(t, c.what, c.l, c.d)
	}
}

func TestPlainOfADepthOutside(t *testing.T) {
	for _, d := range depthsOutside() {
		for _, l := range [][]int{{0}, {5, 5}, {1, 2}, {1 << 40}, nil} {
			if e := checkPlain(t, "a depth outside", l, d); e != api.ErrRange {
				t.Errorf("P10.1: Plain of %v, d %d: %d", l, d, e)
			}
		}
	}
}

// The ends of each depth's samples, at each of three places.
func TestPlainAtTheEnds(t *testing.T) {
	for d := 8; d <= 26; d++ {
		half := 1 << (d - 1)
		for place := range 3 {
			for n, want := range map[int]api.Errno{-half: api.OK, half - 1: api.OK, -half - 1: api.ErrValue, half: api.ErrValue} {
				l := []int{0, 0, 0}
				l[place] = n
				if e := checkPlain(t, "an end", l, d); e != want {
					t.Errorf("P10.1: Plain of %v, d %d: %d, want %d", l, d, e, want)
				}
				if e := checkPlain(t, "an end alone", []int{n}, d); e != want {
					t.Errorf("P10.1: Plain of %d, d %d: %d, want %d", n, d, e, want)
				}
			}
		}
	}
}

func TestPlainByTheWords(t *testing.T) {
	rnd := rand.New(rand.NewSource(8))
	for range 1000 {
		n, d := anyCount(rnd), anyDepth(rnd)
		l := anySamples(rnd, n, d)
		checkPlain(t, "samples", l, d)
		checkPlain(t, "samples of another depth", l, anyDepth(rnd))
		checkPlain(t, "all the same", slices.Repeat(l[:1], n), d)
	}
}
