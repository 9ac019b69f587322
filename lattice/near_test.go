package lattice

import (
	"math"
	"math/rand"
	"testing"

	"sackbut/api"
)

// reflectedAt is an index's reflection at a place, by the chapter's words.
func reflectedAt(place, index int) int {
	return reflectWords(append(make([]int, place), index))[place]
}

func checkNear(t *testing.T, what string, place, number, want int) {
	t.Helper()
	if got := Near(place, number); got != want {
		t.Errorf("P6.1: %s: Near(%d, %d): %d, want %d", what, place, number, got, want)
	}
}

func TestNearOfReflections(t *testing.T) {
	for place := range api.MaxOrder {
		for index := -64; index <= 63; index++ {
			checkNear(t, "a reflection itself", place, reflectedAt(place, index), index)
		}
	}
}

// Two neighbours are an even number apart: halfway stands a whole number.
func TestNearHalfway(t *testing.T) {
	for place := range api.MaxOrder {
		for index := -64; index < 63; index++ {
			one, next := reflectedAt(place, index), reflectedAt(place, index+1)
			half, towards := (one+next)/2, 1
			if one+next != 2*half {
				t.Fatalf("place %d: %d and %d have no half", place, one, next)
			}
			if next < one {
				towards = -1
			}
			checkNear(t, "halfway", place, half, index)
			checkNear(t, "one beyond halfway", place, half+towards, index+1)
			checkNear(t, "one ahead of halfway", place, half-towards, index)
		}
	}
}

func TestNearAtTheEnds(t *testing.T) {
	for _, c := range []struct{ place, number, want int }{
		{0, -1 << 20, -64}, {0, 1 << 20, 63},
		{1, -1 << 20, 63}, {1, 1 << 20, -64},
		{2, -1 << 20, -64}, {2, 1 << 20, 63},
		{15, -1 << 20, -64}, {15, 1 << 20, 63},
		{0, -16384, -64}, {0, -16385, -64}, {0, -16383, -64}, {0, -16382, -63},
		{1, 16384, -64}, {1, 16385, -64}, {1, 16383, -64}, {1, 16382, -63},
		{0, 15874, 63}, {0, 15875, 63}, {0, 15621, 62}, {0, 15622, 63},
		{1, -15874, 63}, {1, -15875, 63}, {1, -15621, 62}, {1, -15622, 63},
		{2, -16384, -64}, {2, -16385, -64}, {2, -16256, -64}, {2, -16255, -63},
		{2, 16128, 63}, {2, 16129, 63}, {2, 16384, 63}, {2, 16000, 62}, {2, 16001, 63},
		{2, 0, 0}, {2, 128, 0}, {2, 129, 1}, {2, -128, -1}, {2, -127, 0},
	} {
		checkNear(t, "at the ends", c.place, c.number, c.want)
	}
}

func TestNearByTheWords(t *testing.T) {
	for _, place := range []int{0, 1, 2, 3, 15} {
		indices := map[int]int{}
		for i := 63; i >= -64; i-- {
			indices[reflectedAt(place, i)] = i
		}
		if len(indices) != 128 {
			t.Fatalf("place %d: two indices have one reflection", place)
		}
		for number := -17000; number <= 17000; number++ {
			checkNear(t, "by the words", place, number, nearWords(indices, number))
		}
	}
}

func TestNearBeyondAllReflections(t *testing.T) {
	rnd := rand.New(rand.NewSource(8))
	for range 2000 {
		beyond := 16385 + rnd.Intn(1<<20-16384)
		checkNear(t, "above all", 0, beyond, 63)
		checkNear(t, "below all", 0, -beyond, -64)
		checkNear(t, "above all", 1, beyond, -64)
		checkNear(t, "below all", 1, -beyond, 63)
		checkNear(t, "above all", 2+rnd.Intn(20), beyond, 63)
		checkNear(t, "below all", 2+rnd.Intn(20), -beyond, -64)
	}
}

// Places from 0 on: also such as no index list has.
func TestNearOfGreatPlaces(t *testing.T) {
	for _, place := range []int{2, 14, 15, 16, 17, 255, 256, 257, 1 << 32, 1<<32 + 1, math.MaxInt} {
		checkNear(t, "a later place", place, 385, 2)
		checkNear(t, "a later place", place, -5*256, -5)
	}
}

// Of such numbers nothing is promised but that the call ends.
func TestNearOfNumbersOutside(t *testing.T) {
	for _, place := range []int{-1, math.MinInt, 0, 1, 2} {
		for _, number := range []int{math.MinInt, math.MaxInt, 1<<20 + 1, -1<<20 - 1, 0} {
			Near(place, number)
		}
	}
}
