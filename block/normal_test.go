package block

import (
	"math"
	"math/rand"
	"slices"
	"testing"

	"sackbut/api"
	"sackbut/lag"
)

func TestNormal(t *testing.T) {
	ramp := []int{10, 20, 30, 40, 50, 60, 70, 80}
	for _, c := range []struct {
		what  string
		l     []int
		index []int
		term  lag.Term
		shift int
		want  api.Block
	}{
		{"a nought", []int{0}, nil, lag.Term{}, 0, api.Block{Kind: api.Normal, Rice: []int{0}, Data: []int{0}}},
		{"a nought by the greatest shift", []int{0}, nil, lag.Term{}, 15, api.Block{Kind: api.Normal, Shift: 15, Rice: []int{0}, Data: []int{0}}},
		{"as they are", []int{4, -4, 4}, []int{}, lag.Term{}, 0, api.Block{Kind: api.Normal, Rice: []int{2}, Data: []int{4, -4, 4}}},
		{"by a shift", []int{4, -4, 4}, nil, lag.Term{}, 2, api.Block{Kind: api.Normal, Shift: 2, Rice: []int{0}, Data: []int{1, -1, 1}}},
		{"by less than the most shift", []int{4, -4, 4}, nil, lag.Term{}, 1, api.Block{Kind: api.Normal, Shift: 1, Rice: []int{1}, Data: []int{2, -2, 2}}},
		{"by an index list", ramp, []int{-64, -64}, lag.Term{}, 0, api.Block{Kind: api.Normal, Index: []int{-64, -64}, Part: 1, Rice: []int{3, 0}, Data: []int{10, 10, 0, 0, 0, 0, 0, 0}}},
		{"by a term", []int{4, 2, 1}, nil, lag.Term{Lag: 1, Gain: 8}, 0, api.Block{Kind: api.Normal, Lag: 1, Gain: 8, Rice: []int{1}, Data: []int{4, 0, 0}}},
		{"by all", []int{6, 8}, []int{-64}, lag.Term{Lag: 1, Gain: 5}, 1, api.Block{Kind: api.Normal, Shift: 1, Index: []int{-64}, Lag: 1, Gain: 5, Rice: []int{2}, Data: []int{3, 1}}},
		{"one beside 16 indices", []int{-32768}, slices.Repeat([]int{-64}, 16), lag.Term{Lag: 255, Gain: 15}, 15, api.Block{Kind: api.Normal, Shift: 15, Index: slices.Repeat([]int{-64}, 16), Lag: 255, Gain: 15, Rice: []int{0}, Data: []int{-1}}},
	} {
		if b, e := Normal(c.l, 16, c.index, c.term, c.shift); !same(b, c.want) || e != api.OK {
			t.Errorf("P10.1: %s: Normal of %v: %v, %d, want %v", c.what, c.l, b, e, c.want)
		}
		checkNormal(t, c.what, c.l, 16, c.index, c.term, c.shift)
	}
}

func TestNormalHasPlainsErrorsFirst(t *testing.T) {
	for _, c := range []struct {
		l    []int
		d    int
		want api.Errno
	}{
		{nil, 8, api.ErrRange},
		{[]int{}, 8, api.ErrRange},
		{make([]int, 1025), 8, api.ErrRange},
		{slices.Repeat([]int{1 << 40}, 1025), 8, api.ErrRange},
		{[]int{0}, 7, api.ErrRange},
		{[]int{0}, 27, api.ErrRange},
		{[]int{0}, math.MinInt, api.ErrRange},
		{[]int{0}, math.MaxInt, api.ErrRange},
		{[]int{1 << 40}, 7, api.ErrRange},
		{[]int{128}, 8, api.ErrValue},
		{[]int{0, 0, -129}, 8, api.ErrValue},
		{[]int{math.MinInt}, 26, api.ErrValue},
		{[]int{math.MaxInt}, 26, api.ErrValue},
	} {
		for _, shift := range []int{0, 1, -1, 26, math.MinInt} {
			for _, index := range [][]int{nil, {64}, make([]int, 17)} {
				for _, term := range []lag.Term{{}, {Lag: 1, Gain: 1}, {Lag: 1}} {
					if _, e := checkNormal(t, "Plain's errors", c.l, c.d, index, term, shift); e != c.want {
						t.Fatalf("P10.1: Normal of %d numbers, d %d: %d, want %d", len(c.l), c.d, e, c.want)
					}
				}
			}
		}
	}
	for _, d := range depthsOutside() {
		checkNormal(t, "a depth outside", []int{0}, d, nil, lag.Term{}, 0)
	}
}

// Each reason of ErrForm, alone.
func TestNormalsForm(t *testing.T) {
	half := []int{0, 64, -64}
	for _, c := range []struct {
		what  string
		l     []int
		d     int
		index []int
		term  lag.Term
		shift int
		want  api.Errno
	}{
		{"none", half, 8, []int{3}, lag.Term{Lag: 1, Gain: 1}, 6, api.OK},
		{"a shift below 0", half, 8, []int{3}, lag.Term{Lag: 1, Gain: 1}, -1, api.ErrForm},
		{"the least shift", half, 8, nil, lag.Term{}, math.MinInt, api.ErrForm},
		{"a shift of a half beyond", half, 8, nil, lag.Term{}, 7, api.ErrForm},
		{"a shift of noughts", []int{0, 0}, 8, nil, lag.Term{}, 7, api.OK},
		{"a shift of d", []int{0, 0}, 8, nil, lag.Term{}, 8, api.ErrForm},
		{"a shift of d, of 16", []int{0, 0}, 16, nil, lag.Term{}, 16, api.ErrForm},
		{"a shift of 24", []int{0, 1 << 24}, 26, nil, lag.Term{}, 24, api.OK},
		{"a shift of 25", []int{0, -1 << 25}, 26, nil, lag.Term{}, 25, api.OK},
		{"a shift of 25, of noughts", []int{0, 0}, 26, nil, lag.Term{}, 25, api.OK},
		{"a shift of 25, no multiple", []int{0, 1 << 24}, 26, nil, lag.Term{}, 25, api.ErrForm},
		{"a shift of 26, of noughts", []int{0, 0}, 26, nil, lag.Term{}, 26, api.ErrForm},
		{"a shift of 63", []int{0, 0}, 26, nil, lag.Term{}, 63, api.ErrForm},
		{"a shift of 64", []int{0, 0}, 26, nil, lag.Term{}, 64, api.ErrForm},
		{"the greatest shift", []int{0, 0}, 26, nil, lag.Term{}, math.MaxInt, api.ErrForm},
		{"one is no multiple", []int{4, 2, 4}, 8, nil, lag.Term{}, 2, api.ErrForm},
		{"one below 0 is no multiple", []int{4, -2, 4}, 8, nil, lag.Term{}, 2, api.ErrForm},
		{"an odd one", []int{4, 4, 1}, 8, nil, lag.Term{}, 1, api.ErrForm},
		{"an index beyond", half, 8, []int{64}, lag.Term{}, 0, api.ErrForm},
		{"an index below", half, 8, []int{0, -65}, lag.Term{}, 0, api.ErrForm},
		{"16 indices", half, 8, make([]int, 16), lag.Term{}, 0, api.OK},
		{"17 indices", half, 8, make([]int, 17), lag.Term{}, 0, api.ErrForm},
		{"a Lag alone", half, 8, nil, lag.Term{Lag: 1}, 0, api.ErrForm},
		{"a Gain alone", half, 8, nil, lag.Term{Gain: 1}, 0, api.ErrForm},
		{"a Lag beyond", half, 8, nil, lag.Term{Lag: 256, Gain: 1}, 0, api.ErrForm},
		{"a Gain beyond", half, 8, nil, lag.Term{Lag: 1, Gain: 16}, 0, api.ErrForm},
		{"a Lag below", half, 8, nil, lag.Term{Lag: -1, Gain: 1}, 0, api.ErrForm},
		{"a Gain below", half, 8, nil, lag.Term{Lag: 1, Gain: -1}, 0, api.ErrForm},
		{"the greatest term", half, 8, nil, lag.Term{Lag: 255, Gain: 15}, 0, api.OK},
	} {
		if _, e := checkNormal(t, c.what, c.l, c.d, c.index, c.term, c.shift); e != c.want {
			t.Errorf("P10.1: %s: Normal: %d, want %d", c.what, e, c.want)
		}
	}
}

// steep foresees what alternates at its worst: its coefficients are as great
// as they may be together.
func steep() []int {
	index := []int{-64, -64}
	for len(index) < 16 {
		index = append(index, -64, 63)
	}
	return index
}

// reaching is samples of depth 26, so many, whose last residual, behind a term,
// is a number: all but the last alternate, and are as great as that needs.
func reaching(t *testing.T, index []int, term lag.Term, count, target int) []int {
	t.Helper()
	size := 1 << 16
	last := lastOf(alternating(count, size), index, term)
	size = int(float64(size) * float64(target) / float64(last))
	l := alternating(count, size)
	l[count-1] = target - lastOf(l, index, term)
	if !areSamples(l, 26) || lastOf(l, index, term) != target {
		t.Fatalf("no samples have %d as their last residual: %v, %d", target, l, lastOf(l, index, term))
	}
	return l
}

// alternating are numbers of a size, but for a nought at last.
func alternating(count, size int) []int {
	l := make([]int, count)
	for i := range count - 1 {
		l[i] = size - 2*size*(i%2)
	}
	return l
}

func lastOf(l, index []int, term lag.Term) int {
	return offWords(term, residualsWords(index, l))[len(l)-1]
}

func TestResidualsAtTheEnds(t *testing.T) {
	for _, term := range []lag.Term{{}, {Lag: 1, Gain: 1}, {Lag: 1, Gain: 15}, {Lag: 3, Gain: 8}, {Lag: 16, Gain: 15}} {
		for _, count := range []int{13, 16, 17} {
			for end, beyond := range map[int]int{greatestResidual: 1, leastResidual: -1} {
				l := reaching(t, steep(), term, count, end+beyond)
				if _, e := checkNormal(t, "beyond an end", l, 26, steep(), term, 0); e != api.ErrValue {
					t.Errorf("P10.1: Normal of samples whose last residual is %d by %v: %d", end+beyond, term, e)
				}
				l = reaching(t, steep(), term, count, end)
				b, e := checkNormal(t, "an end", l, 26, steep(), term, 0)
				if e != api.OK || b.Data[count-1] != end {
					t.Fatalf("P10.1: Normal of samples whose last residual is %d by %v: %v, %d", end, term, b, e)
				}
				if e := checkBlock(t, "an end of residuals", b, count, 26); e != api.OK {
					t.Errorf("P10.1: Samples of a block whose last residual is %d: %d", end, e)
				}
				b.Data[count-1] += beyond
				if e := checkBlock(t, "beyond an end of residuals", b, count, 26); e != api.ErrForm {
					t.Errorf("P10.1: Samples of a block whose last residual is %d: %d", end+beyond, e)
				}
			}
		}
	}
}

// Residuals of what alternates do so too: of two behind one another the signs
// differ, so that a Lag of 1 makes them greater, and one of 2 less.
func TestResidualsThatATermMakesGreaterOrLess(t *testing.T) {
	greater, less := lag.Term{Lag: 1, Gain: 15}, lag.Term{Lag: 2, Gain: 15}
	for _, end := range []int{greatestResidual, leastResidual} {
		for _, c := range []struct {
			reach, term lag.Term
			want        api.Errno
		}{
			{lag.Term{}, lag.Term{}, api.OK},
			{lag.Term{}, greater, api.ErrValue},
			{lag.Term{}, less, api.OK},
			{less, lag.Term{}, api.ErrValue},
			{less, less, api.OK},
			{less, greater, api.ErrValue},
			{greater, lag.Term{}, api.OK},
			{greater, greater, api.OK},
		} {
			l := reaching(t, steep(), c.reach, 17, end)
			if _, e := checkNormal(t, "greater or less", l, 26, steep(), c.term, 0); e != c.want {
				t.Errorf("P10.1: Normal by %v of samples whose last residual is %d by %v: %d, want %d", c.term, end, c.reach, e, c.want)
			}
		}
	}
}

// A residual at the ends of chapter 8's numbers, and beyond them, ahead of the
// term, has a rest outside chapter 3's anyway.
func TestResidualsOutsideChapter8s(t *testing.T) {
	for _, term := range []lag.Term{{}, {Lag: 1, Gain: 15}, {Lag: 2, Gain: 15}, {Lag: 255, Gain: 15}} {
		for _, target := range []int{1 << 40, 1<<40 + 1, -1 << 40, -1<<40 - 1} {
			l := reaching(t, steep(), lag.Term{}, 17, target)
			if _, e := checkNormal(t, "an end of chapter 8's", l, 26, steep(), term, 0); e != api.ErrValue {
				t.Errorf("P10.1: Normal of samples whose last residual is %d by %v: %d", target, term, e)
			}
		}
	}
}

func TestNormalByTheWords(t *testing.T) {
	rnd := rand.New(rand.NewSource(10))
	count := map[api.Errno]int{}
	for range 2500 {
		n, d := anyCount(rnd), anyDepth(rnd)
		l := anySamples(rnd, n, d)
		index, term, shift := anyIndex(rnd), anyTerm(rnd), anyShift(rnd, l, d)
		switch rnd.Intn(8) {
		case 0:
			shift = rnd.Intn(30) - 2
		case 1:
			term.Gain = rnd.Intn(18) - 1
		case 2:
			index = append(slices.Clone(index), rnd.Intn(140)-70)
		case 3:
			n, d = 13+rnd.Intn(10), 26
			l, index, shift = alternating(n, rnd.Intn(1<<25)), steep(), 0
		}
		_, e := checkNormal(t, "any", l, d, index, term, shift)
		count[e]++
	}
	for _, e := range []api.Errno{api.OK, api.ErrForm, api.ErrValue} {
		if count[e] < 50 {
			t.Errorf("P10.1: Normal has the error %d %d times", e, count[e])
		}
	}
}

// Whatever Normal answers is right, and has the samples.
func TestANormalHasItsSamples(t *testing.T) {
	rnd := rand.New(rand.NewSource(11))
	for range 800 {
		n, d := anyCount(rnd), anyDepth(rnd)
		l := anySamples(rnd, n, d)
		b, e := Normal(l, d, anyIndex(rnd), anyTerm(rnd), anyShift(rnd, l, d))
		if e != api.OK {
			continue
		}
		if m, e := Samples(b, n, d); !slices.Equal(m, l) || e != api.OK {
			t.Fatalf("P10.1: the Normal of %v, d %d, has the samples %v, %d", l, d, m, e)
		}
	}
}
