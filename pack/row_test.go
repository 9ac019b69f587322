package pack

import (
	"math"
	"math/rand"
	"slices"
	"testing"

	"sackbut/api"
)

func TestRowAtEachPlace(t *testing.T) {
	rnd := rand.New(rand.NewSource(6))
	for channels := 1; channels <= api.MaxChannels; channels++ {
		for _, samples := range []int{1, 2, 3, 50} {
			l := anyChannels(rnd, Form{24, false}, channels, samples)
			for i := range samples {
				var want []int
				for c := range channels {
					want = append(want, l[c][i])
				}
				if got := Row(l, i); !slices.Equal(got, want) {
					t.Fatalf("P5.1: Row(%v, %d): %v, want %v", l, i, got, want)
				}
			}
		}
	}
}

func TestRowsThatAreKnown(t *testing.T) {
	l := [][]int{{1, -2, 127}, {-128, 0, 5}}
	for i, want := range [][]int{{1, -128}, {-2, 0}, {127, 5}} {
		if got := Row(l, i); !slices.Equal(got, want) {
			t.Errorf("P5.1: Row(%v, %d): %v, want %v", l, i, got, want)
		}
	}
}

// Rows, one behind the other, are what is packed.
func TestRowsArePacked(t *testing.T) {
	rnd := rand.New(rand.NewSource(7))
	for _, f := range forms() {
		l := anyChannels(rnd, f, 1+rnd.Intn(8), 30)
		text := ""
		for i := range l[0] {
			for _, n := range Row(l, i) {
				text += sampleWords(f, n)
			}
		}
		if want := packWords(f, l); text != want {
			t.Errorf("P5.1: the rows of %v: %s, want %s", l, text, want)
		}
	}
}

func TestRowAtTheLastOfManySamples(t *testing.T) {
	list := make([]int, api.MaxSamples)
	list[0], list[api.MaxSamples-1] = 3, 7
	l := many(8, list)
	if first, last := Row(l, 0), Row(l, api.MaxSamples-1); !slices.Equal(first, slices.Repeat([]int{3}, 8)) || !slices.Equal(last, slices.Repeat([]int{7}, 8)) {
		t.Errorf("P5.1: Row at the ends: %v, %v", first, last)
	}
}

// Of such places and channels nothing is promised but that the call ends.
func TestRowsThatAreNotThere(t *testing.T) {
	for _, l := range [][][]int{nil, {}, {{}}, {{}, {}}, {{1}}, {{1, 2}, {1}}, {{1}, {1, 2}}} {
		for _, i := range []int{-1, 0, 1, 2, math.MinInt, math.MaxInt} {
			Row(l, i)
		}
	}
}
