package filter

import (
	"math/big"
	"math/rand"
	"slices"
	"testing"

	"sackbut/api"
)

// What follows tells the words of chapters 6 and 7 over again. Coefficients,
// predictions, differences and sums are worked out in numbers without an end,
// so that no wrap-round of the package's is hidden by the same one here.

// roundWords is the rounded part of a product.
func roundWords(p *big.Int) *big.Int {
	sum := new(big.Int).Add(p, big.NewInt(8192))
	// Div of a divisor above 0 is divided, down.
	return sum.Div(sum, big.NewInt(16384))
}

// reflectionWords is an index's reflection.
func reflectionWords(place, i int) int {
	u := i + 64
	switch place {
	case 0:
		return 2*u*u - 16384
	case 1:
		return 16384 - 2*u*u
	}
	return 256 * i
}

// coefsWords are an index list's coefficients, numbered from 1 on: a[0] is none
// of them.
func coefsWords(index []int) []*big.Int {
	a := []*big.Int{nil}
	for m, i := range index {
		k := big.NewInt(int64(reflectionWords(m, i)))
		next := []*big.Int{nil}
		for j := 1; j <= m; j++ {
			part := roundWords(new(big.Int).Mul(k, a[m+1-j]))
			next = append(next, part.Add(part, a[j]))
		}
		a = append(next, k)
	}
	return a
}

// foreseenWords is the prediction of the sample at a place, by the coefficients
// behind each number of indices.
func foreseenWords(coefs [][]*big.Int, samples []int, place int) *big.Int {
	a := coefs[min(place, len(coefs)-1)]
	sum := new(big.Int)
	for j := 1; j < len(a); j++ {
		x := big.NewInt(int64(samples[place-j]))
		sum.Add(sum, x.Mul(x, a[j]))
	}
	part := roundWords(sum)
	return part.Neg(part)
}

// firstCoefs are the coefficients behind each number of first indices.
func firstCoefs(index []int) [][]*big.Int {
	var out [][]*big.Int
	for n := range len(index) + 1 {
		out = append(out, coefsWords(index[:n]))
	}
	return out
}

// residualsWords are the residuals by the chapter's words, sample by sample.
func residualsWords(index, samples []int) []int {
	coefs := firstCoefs(index)
	out := []int{}
	for place, x := range samples {
		r := foreseenWords(coefs, samples, place)
		r.Sub(big.NewInt(int64(x)), r)
		if !r.IsInt64() {
			panic("a residual that is no int")
		}
		out = append(out, int(r.Int64()))
	}
	return out
}

// samplesWords are the samples by the chapter's words, of an index list and a
// right most.
func samplesWords(index, residuals []int, most int) ([]int, api.Errno) {
	coefs := firstCoefs(index)
	out := []int{}
	for place, r := range residuals {
		x := foreseenWords(coefs, out, place)
		x.Add(x, big.NewInt(int64(r)))
		if r < -1<<60 || r > 1<<60 || x.Cmp(big.NewInt(int64(-most-1))) < 0 || x.Cmp(big.NewInt(int64(most))) > 0 {
			return nil, api.ErrValue
		}
		out = append(out, int(x.Int64()))
	}
	return out, api.OK
}

// sumsWords are the sums of the residuals' sizes by each number of first
// indices.
func sumsWords(index, samples []int) []*big.Int {
	var out []*big.Int
	for n := range len(index) + 1 {
		sum := new(big.Int)
		for _, r := range residualsWords(index[:n], samples) {
			x := big.NewInt(int64(r))
			sum.Add(sum, x.Abs(x))
		}
		out = append(out, sum)
	}
	return out
}

// leastWords is the least number with the least sum, and whether another number
// has that sum too.
func leastWords(sums []*big.Int) (least int, tie bool) {
	lowest := slices.MinFunc(sums, (*big.Int).Cmp)
	least = slices.IndexFunc(sums, func(s *big.Int) bool { return s.Cmp(lowest) == 0 })
	tie = slices.ContainsFunc(sums[least+1:], func(s *big.Int) bool { return s.Cmp(lowest) == 0 })
	return least, tie
}

// anyIndex gives indices at both ends, around 0 and in between.
func anyIndex(rnd *rand.Rand) int {
	switch rnd.Intn(6) {
	case 0:
		return -64 + rnd.Intn(2)
	case 1:
		return 63 - rnd.Intn(2)
	case 2:
		return rnd.Intn(3) - 1
	}
	return rnd.Intn(128) - 64
}

// anyList is an index list of so many.
func anyList(rnd *rand.Rand, count int) []int {
	l := make([]int, count)
	for i := range l {
		l[i] = anyIndex(rnd)
	}
	return l
}

// tameList is an index list of so many whose predictions stay near the samples.
func tameList(rnd *rand.Rand, count int) []int {
	l := make([]int, count)
	for i := range l {
		l[i] = rnd.Intn(13) - 6
	}
	return l
}

// anySamples are so many from -most - 1, but not below -2^26, to most: at both
// ends, around 0 and in between.
func anySamples(rnd *rand.Rand, count, most int) []int {
	l := make([]int, count)
	lowest := max(-most-1, -1<<26)
	for i := range l {
		switch rnd.Intn(4) {
		case 0:
			l[i] = most
		case 1:
			l[i] = lowest
		case 2:
			l[i] = min(max(rnd.Intn(5)-2, lowest), most)
		default:
			l[i] = lowest + rnd.Intn(most-lowest+1)
		}
	}
	return l
}

// eachEnds gives all lists of so many indices, each of them at an end.
func eachEnds(count int, give func(index []int)) {
	for bits := range 1 << count {
		l := make([]int, count)
		for i := range l {
			l[i] = -64
			if bits>>i&1 == 1 {
				l[i] = 63
			}
		}
		give(l)
	}
}

// noLists are numbers that are no index list.
func noLists() [][]int {
	long := make([]int, api.MaxOrder+1)
	return [][]int{
		{-65}, {64}, {0, -65}, {64, 0}, {0, 0, 64}, {0, 0, -65, 0},
		append(make([]int, api.MaxOrder-1), 64),
		append(make([]int, api.MaxOrder-1), -65),
		{-1 << 63}, {1<<63 - 1}, long, append(long, long...),
	}
}

func TestTheLimitsAreTheChapters(t *testing.T) {
	if limit != 67108864 || farthest != 1152921504606846976 || api.MaxOrder != 16 {
		t.Errorf("P7.1: samples to %d, residuals to %d, indices to %d", limit, farthest, api.MaxOrder)
	}
}
