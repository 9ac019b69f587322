package lattice

import (
	"math/rand"
	"slices"
	"testing"

	"sackbut/api"
)

// What is wanted was reckoned from the chapter's words, without the package.
func TestCoefs(t *testing.T) {
	for _, c := range []struct{ l, want []int }{
		{nil, nil},
		{[]int{}, nil},
		{[]int{0}, []int{-8192}},
		{[]int{-64}, []int{-16384}},
		{[]int{63}, []int{15874}},
		{[]int{0, 0}, []int{-12288, 8192}},
		{[]int{-64, -64}, []int{-32768, 16384}},
		// -15874 times 15874, and 8192, is -251975684: divided by 16384, down, it is -15380.
		{[]int{63, 63}, []int{494, -15874}},
		{[]int{-64, -64, -64}, []int{-49152, 49152, -16384}},
		{[]int{0, 0, 2}, []int{-12032, 7808, 512}},
		// Behind -12288 and 8192: 128 and -192 are added; then a reflection of 0 adds nothing.
		{[]int{0, 0, 1, 0}, []int{-12160, 8000, 256, 0}},
	} {
		if got := Coefs(c.l); !slices.Equal(got, c.want) {
			t.Errorf("P6.1: Coefs(%v): %v, want %v", c.l, got, c.want)
		}
	}
}

// The products have rests, at a half and near it, below 0 too: by another
// rounding, or by one at the end alone, there are other coefficients.
func TestCoefsAreRoundedAtEachStep(t *testing.T) {
	for _, c := range []struct{ l, want []int }{
		// Behind -32736 and 16352: 255.5 and -511.5 are added.
		{[]int{-64, -60, 1}, []int{-32480, 15841, 256}},
		// -255.5 and 511.5 are added.
		{[]int{-64, -60, -1}, []int{-32991, 16864, -256}},
		// To -16382 a little less than -16380 is added.
		{[]int{-63, -63}, []int{-32762, 16382}},
		// To -16382 -14334.25 is added.
		{[]int{-63, -32}, []int{-30716, 14336}},
		// Behind these 224 and -479.9375 are added.
		{[]int{-63, -32, 1}, []int{-30492, 13856, 256}},
		// To -14336 -14224 is added; then to -28560 and 16256 254 and -446.25.
		{[]int{-32, -56, 1}, []int{-28306, 15810, 256}},
	} {
		if got := Coefs(c.l); !slices.Equal(got, c.want) {
			t.Errorf("P6.1: Coefs(%v): %v, want %v", c.l, got, c.want)
		}
		if words := coefsWords(c.l); !slices.Equal(words, c.want) {
			t.Errorf("the words tell of %v %v, want %v", c.l, words, c.want)
		}
	}
}

func checkCoefs(t *testing.T, l []int) {
	t.Helper()
	got, want := Coefs(l), coefsWords(l)
	if !slices.Equal(got, want) {
		t.Fatalf("P6.1: Coefs(%v): %v, want %v", l, got, want)
	}
}

func TestCoefsOfOneAndTwoIndices(t *testing.T) {
	for first := -64; first <= 63; first++ {
		checkCoefs(t, []int{first})
		for second := -64; second <= 63; second++ {
			checkCoefs(t, []int{first, second})
		}
	}
}

func TestCoefsByTheWords(t *testing.T) {
	rnd := rand.New(rand.NewSource(2))
	for count := range api.MaxOrder + 1 {
		for range 200 {
			checkCoefs(t, anyList(rnd, count))
		}
	}
}

func TestNoCoefficientIsAboveTwoToThe30th(t *testing.T) {
	tooGreat := func(n int) bool { return n > 1<<30 || n < -1<<30 }
	check := func(l []int) {
		if coefs := Coefs(l); len(coefs) != len(l) || slices.ContainsFunc(coefs, tooGreat) {
			t.Fatalf("P6.2: Coefs(%v): %v", l, coefs)
		}
	}
	eachEnds(api.MaxOrder, check)
	rnd := rand.New(rand.NewSource(3))
	for range 20000 {
		check(anyList(rnd, api.MaxOrder))
	}
}

func TestCoefsAtTheEndsByTheWords(t *testing.T) {
	eachEnds(8, func(l []int) { checkCoefs(t, l) })
	rnd := rand.New(rand.NewSource(4))
	for range 500 {
		l := anyList(rnd, api.MaxOrder)
		for i := range l {
			l[i] = -64 + 127*rnd.Intn(2)
		}
		checkCoefs(t, l)
	}
}
