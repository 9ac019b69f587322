package lattice

import (
	"math"
	"math/rand"
	"slices"
	"testing"

	"sackbut/api"
)

func TestGood(t *testing.T) {
	for _, l := range [][]int{
		nil, {}, {0}, {-64}, {63}, {-64, 63}, {63, -64}, {1, -1, 2},
		slices.Repeat([]int{-64}, api.MaxOrder), slices.Repeat([]int{63}, api.MaxOrder), make([]int, api.MaxOrder-1),
	} {
		if !Good(l) {
			t.Errorf("P6.1: %v is no index list", l)
		}
	}
}

func TestGoodOfEachNumberOfIndices(t *testing.T) {
	for count := range 100 {
		for _, index := range []int{0, -64, 63} {
			if got := Good(slices.Repeat([]int{index}, count)); got != (count <= 16) {
				t.Errorf("P6.1: Good of %d indices %d: %v", count, index, got)
			}
		}
	}
}

// noIndices are numbers that are none.
func noIndices() []int {
	return []int{-65, 64, -66, 65, 127, 128, -128, 192, 256, -256, 1<<32 + 1, -1<<32 - 1, 1 << 62, math.MinInt, math.MaxInt}
}

func TestGoodOfEachIndex(t *testing.T) {
	for index := -300; index <= 300; index++ {
		if got := Good([]int{index}); got != (index >= -64 && index <= 63) {
			t.Errorf("P6.1: Good of %d: %v", index, got)
		}
	}
	for _, wrong := range noIndices() {
		for count := 1; count <= api.MaxOrder; count++ {
			for place := range count {
				l := make([]int, count)
				l[place] = wrong
				if Good(l) {
					t.Errorf("P6.1: with %d at place %d of %d there is an index list", wrong, place, count)
				}
			}
		}
	}
}

func TestReflectAtTheEnds(t *testing.T) {
	for _, c := range []struct{ l, want []int }{
		{nil, nil},
		{[]int{-64}, []int{-16384}},
		{[]int{-63}, []int{-16382}},
		{[]int{0}, []int{-8192}},
		{[]int{62}, []int{15368}},
		{[]int{63}, []int{15874}},
		{[]int{0, -64}, []int{-8192, 16384}},
		{[]int{0, -63}, []int{-8192, 16382}},
		{[]int{0, 0}, []int{-8192, 8192}},
		{[]int{0, 63}, []int{-8192, -15874}},
		{[]int{0, 0, -64, 63, 0, 1, -1}, []int{-8192, 8192, -16384, 16128, 0, 256, -256}},
		{slices.Repeat([]int{-64}, 16), append([]int{-16384, 16384}, slices.Repeat([]int{-16384}, 14)...)},
		{slices.Repeat([]int{63}, 16), append([]int{15874, -15874}, slices.Repeat([]int{16128}, 14)...)},
	} {
		if got := Reflect(c.l); !slices.Equal(got, c.want) {
			t.Errorf("P6.1: Reflect(%v): %v, want %v", c.l, got, c.want)
		}
	}
}

func TestReflectOfEachIndexAtEachPlace(t *testing.T) {
	for place := range api.MaxOrder {
		for index := -64; index <= 63; index++ {
			l := make([]int, api.MaxOrder)
			l[place] = index
			if got, want := Reflect(l), reflectWords(l); !slices.Equal(got, want) {
				t.Errorf("P6.1: Reflect(%v): %v, want %v", l, got, want)
			}
		}
	}
}

func TestReflectByTheWords(t *testing.T) {
	rnd := rand.New(rand.NewSource(1))
	for range 2000 {
		l := anyList(rnd, rnd.Intn(api.MaxOrder+1))
		if got, want := Reflect(l), reflectWords(l); !slices.Equal(got, want) {
			t.Fatalf("P6.1: Reflect(%v): %v, want %v", l, got, want)
		}
	}
}

// Of such lists nothing is promised but that the calls end, and soon.
func TestListsThatAreNone(t *testing.T) {
	lists := [][]int{make([]int, 17), make([]int, 1<<20), {64}, {0, -65}, {0, 0, math.MinInt}, {math.MaxInt, math.MinInt, math.MaxInt}}
	for _, wrong := range noIndices() {
		lists = append(lists, []int{wrong}, []int{1, wrong, 1}, slices.Repeat([]int{wrong}, 17))
	}
	for _, l := range lists {
		if Good(l) {
			t.Errorf("P6.1: %d numbers are an index list", len(l))
		}
		Reflect(l)
		Coefs(l)
		for range Steps(l) {
		}
	}
}
