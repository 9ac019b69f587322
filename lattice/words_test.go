package lattice

import (
	"math/big"
	"math/rand"
	"slices"
	"testing"

	"sackbut/api"
)

// What follows tells the chapter's words over again. What is multiplied and
// rounded is in numbers without an end, so that no wrap-round of the package's
// is hidden by the same one here.

// roundWords is the rounded part of a product.
func roundWords(p *big.Int) *big.Int {
	sum := new(big.Int).Add(p, big.NewInt(8192))
	// Mod is never below 0: what is left divides without a rest, and so down.
	rest := new(big.Int).Mod(sum, big.NewInt(16384))
	return sum.Sub(sum, rest).Quo(sum, big.NewInt(16384))
}

// reflectWords are an index list's reflections.
func reflectWords(l []int) []int {
	var out []int
	for place, i := range l {
		u := i + 64
		switch place {
		case 0:
			out = append(out, 2*u*u-16384)
		case 1:
			out = append(out, 16384-2*u*u)
		default:
			out = append(out, 256*i)
		}
	}
	return out
}

// coefsWords are an index list's coefficients. They are numbered from 1 on, as
// in the chapter: a[0] is none of them.
func coefsWords(l []int) []int {
	a := []*big.Int{nil}
	for m, reflection := range reflectWords(l) {
		k := big.NewInt(int64(reflection))
		next := []*big.Int{nil}
		for j := 1; j <= m; j++ {
			part := roundWords(new(big.Int).Mul(k, a[m+1-j]))
			next = append(next, part.Add(part, a[j]))
		}
		a = append(next, k)
	}
	var out []int
	for _, n := range a[1:] {
		out = append(out, int(n.Int64()))
	}
	return out
}

// predictWords is the prediction by coefficients from past samples.
func predictWords(coefs, past []int) int {
	sum := new(big.Int)
	for j := 1; j <= len(coefs); j++ {
		x := 0
		if j <= len(past) {
			x = past[len(past)-j]
		}
		sum.Add(sum, new(big.Int).Mul(big.NewInt(int64(coefs[j-1])), big.NewInt(int64(x))))
	}
	return -int(roundWords(sum).Int64())
}

// nearWords is the index whose reflection is nearest, the least of these: it
// asks for each distance from 0 on whether a reflection is so far off. It is
// handed the indices by their reflections.
func nearWords(indices map[int]int, number int) int {
	for distance := 0; ; distance++ {
		below, isBelow := indices[number-distance]
		above, isAbove := indices[number+distance]
		switch {
		case isBelow && isAbove:
			return min(below, above)
		case isBelow:
			return below
		case isAbove:
			return above
		}
	}
}

// anyIndex gives indices at both ends, around 0 and in between.
func anyIndex(rnd *rand.Rand) int {
	switch rnd.Intn(6) {
	case 0:
		return -64 + rnd.Intn(2)
	case 1:
		return 63 - rnd.Intn(2)
	case 2:
		return rnd.Intn(3) - 1
	}
	return rnd.Intn(128) - 64
}

// anyList is an index list of so many.
func anyList(rnd *rand.Rand, count int) []int {
	l := make([]int, count)
	for i := range l {
		l[i] = anyIndex(rnd)
	}
	return l
}

// anySamples are so many of chapter 7's, at both ends, around 0 and in between.
func anySamples(rnd *rand.Rand, count int) []int {
	l := make([]int, count)
	for i := range l {
		switch rnd.Intn(4) {
		case 0:
			l[i] = 1 << 26
		case 1:
			l[i] = -1 << 26
		case 2:
			l[i] = rnd.Intn(5) - 2
		default:
			l[i] = rnd.Intn(1<<27+1) - 1<<26
		}
	}
	return l
}

// eachEnds gives all lists of so many indices, each of them at an end.
func eachEnds(count int, give func(l []int)) {
	for bits := range 1 << count {
		l := make([]int, count)
		for i := range l {
			l[i] = -64
			if bits>>i&1 == 1 {
				l[i] = 63
			}
		}
		give(l)
	}
}

// stepsOf are all that Steps gives; their numbers must be those from 0 on.
func stepsOf(t *testing.T, l []int) [][]int {
	t.Helper()
	var out [][]int
	for n, coefs := range Steps(l) {
		if n != len(out) {
			t.Fatalf("P6.1: Steps(%v) gives the number %d at %d", l, n, len(out))
		}
		out = append(out, coefs)
	}
	return out
}

// same tells whether lists are the same; none and an empty one are.
func same(a, b [][]int) bool {
	return slices.EqualFunc(a, b, func(x, y []int) bool { return slices.Equal(x, y) })
}

func clone(l [][]int) [][]int {
	out := make([][]int, len(l))
	for i := range l {
		out[i] = slices.Clone(l[i])
	}
	return out
}

func TestOneIsWhatTheChapterSays(t *testing.T) {
	if api.One != 16384 || 1<<oneBits != api.One || api.MaxOrder != 16 {
		t.Errorf("P6.1: One is %d, two to %d; MaxOrder %d", api.One, oneBits, api.MaxOrder)
	}
}
