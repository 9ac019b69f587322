package lag

import (
	"math"
	"math/rand"
	"testing"

	"sackbut/api"
)

// What follows tells the chapter's words over again. No product, difference or
// sum of these tests wraps round: numbers are below 2^41, products below 2^45,
// and no list has 2^20 of them.

const end = 1099511627776 // 2^40

func goodWords(t Term) bool {
	if t.Lag == 0 || t.Gain == 0 {
		return t.Lag == 0 && t.Gain == 0
	}
	return t.Lag > 0 && t.Lag < 256 && t.Gain > 0 && t.Gain < 16
}

// downWords is a number divided by 16, down.
func downWords(n int) int {
	rest := n % 16
	if rest < 0 {
		rest += 16
	}
	return (n - rest) / 16
}

// takenWords is what a term takes off at a place of numbers.
func takenWords(t Term, l []int, place int) int {
	if t.Lag == 0 || place < t.Lag {
		return 0
	}
	return downWords(l[place-t.Lag] * t.Gain)
}

func hasOutsideWords(l []int) bool {
	for _, n := range l {
		if n > end || n < -end {
			return true
		}
	}
	return false
}

func offWords(t Term, l []int) ([]int, api.Errno) {
	if !goodWords(t) {
		return nil, api.ErrRange
	}
	if hasOutsideWords(l) {
		return nil, api.ErrValue
	}
	var out []int
	for place, n := range l {
		out = append(out, n-takenWords(t, l, place))
	}
	return out, api.OK
}

func onWords(t Term, l []int) ([]int, api.Errno) {
	if !goodWords(t) {
		return nil, api.ErrRange
	}
	if hasOutsideWords(l) {
		return nil, api.ErrValue
	}
	var out []int
	for place, n := range l {
		out = append(out, n+takenWords(t, append(out, 0), place))
		if hasOutsideWords(out[place:]) {
			return nil, api.ErrValue
		}
	}
	return out, api.OK
}

// sumWords is the sum of the sizes of what a term's Off leaves.
func sumWords(t Term, l []int) int {
	sum := 0
	for place, n := range l {
		n -= takenWords(t, l, place)
		if n < 0 {
			n = -n
		}
		sum += n
	}
	return sum
}

// bestWords is the term with the least sum, and whether another one has that
// sum too. It goes through them from the last one down.
func bestWords(l []int) (best Term, tie bool) {
	least := math.MaxInt
	try := func(t Term) {
		sum := sumWords(t, l)
		tie = sum == least || tie && sum > least
		if sum <= least {
			best, least = t, sum
		}
	}
	for lag := 255; lag >= 1; lag-- {
		if lag >= len(l) {
			continue
		}
		for gain := 15; gain >= 1; gain-- {
			try(Term{lag, gain})
		}
	}
	try(Term{})
	return best, tie
}

// anyTerm gives good terms: the one that does nothing, such as have a number at
// an end, and others.
func anyTerm(rnd *rand.Rand) Term {
	t := Term{1 + rnd.Intn(255), 1 + rnd.Intn(15)}
	switch rnd.Intn(6) {
	case 0:
		return Term{}
	case 1:
		t.Gain = 1 + 14*rnd.Intn(2)
	case 2:
		t.Lag = 1 + 254*rnd.Intn(2)
	case 3, 4:
		t.Lag = 1 + rnd.Intn(8)
	}
	return t
}

// noTerms are those that may not be.
func noTerms() []Term {
	out := []Term{
		{0, 1}, {0, 15}, {1, 0}, {255, 0}, {0, -1}, {-1, 0}, {0, 16}, {256, 0},
		{-1, 1}, {1, -1}, {-1, -1}, {256, 1}, {256, 15}, {1, 16}, {255, 16}, {256, 16},
		{257, 17}, {1 << 32, 1}, {1, 1 << 32}, {1<<32 + 1, 1<<32 + 1}, {1 << 32, 1 << 32},
	}
	for _, n := range []int{math.MinInt, math.MinInt + 1, math.MaxInt} {
		out = append(out, Term{n, 1}, Term{1, n}, Term{n, n}, Term{0, n}, Term{n, 0})
	}
	return out
}

// anyNumbers are so many of a size at most: at both ends, around 0 and in
// between.
func anyNumbers(rnd *rand.Rand, count, most int) []int {
	l := make([]int, count)
	for i := range l {
		switch rnd.Intn(5) {
		case 0:
			l[i] = most
		case 1:
			l[i] = -most
		case 2:
			l[i] = min(max(rnd.Intn(37)-18, -most), most)
		default:
			l[i] = rnd.Intn(2*most+1) - most
		}
	}
	return l
}

// anyCount is of numbers: fewer than a Lag, as many, one more, or many more.
func anyCount(rnd *rand.Rand, t Term) int {
	switch rnd.Intn(5) {
	case 0:
		return rnd.Intn(t.Lag + 1)
	case 1:
		return t.Lag
	case 2:
		return t.Lag + 1
	case 3:
		return t.Lag + 2 + rnd.Intn(20)
	}
	return 2*t.Lag + rnd.Intn(3*t.Lag+20)
}

func TestTheLimitsAreTheChapters(t *testing.T) {
	if limit != end || 1<<gainBits != 16 || api.MaxLag != 255 || api.MaxGain != 15 {
		t.Errorf("P8.1: numbers to %d, gains of %dths, lags to %d, gains to %d", limit, 1<<gainBits, api.MaxLag, api.MaxGain)
	}
}
