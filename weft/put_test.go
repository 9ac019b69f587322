package weft

import (
	"math"
	"math/rand"
	"strings"
	"testing"

	"sackbut/api"
	"sackbut/pipe"
)

func TestPut(t *testing.T) {
	for _, c := range []struct {
		what     string
		w        api.Weave
		channels int
		want     string
	}{
		{"none", api.Weave{}, 2, "0"},
		{"none among one", api.Weave{}, 1, "0"},
		{"none among 8", api.Weave{}, 8, "0"},
		{"none among no channels", api.Weave{}, 0, "0"},
		{"the chapter's", some(0, 0, 15, 0), 2, "1" + "000" + "00000" + "01111" + "00000"},
		{"the least Gains", some(0, -16, -16, -16), 1, "1" + "000" + "10000" + "10000" + "10000"},
		{"the greatest Gains", some(7, 15, 15, 15), 8, "1" + "111" + "01111" + "01111" + "01111"},
		{"Gains in their order", some(5, 1, -1, 2), 6, "1" + "101" + "00001" + "11111" + "00010"},
		{"the first Gain alone", some(1, -2, 0, 0), 2, "1" + "001" + "11110" + "00000" + "00000"},
		{"the last Gain alone", some(1, 0, 0, 3), 2, "1" + "001" + "00000" + "00000" + "00011"},
		{"more channels than there may be", some(7, 0, 1, 0), math.MaxInt, "1" + "111" + "00000" + "00001" + "00000"},
	} {
		var p pipe.Writer
		if !Put(&p, c.w, c.channels) || bitsOf(&p) != c.want {
			t.Errorf("P11.1: %s: bits %s, want %s", c.what, bitsOf(&p), c.want)
		}
		if goodWords(c.w, c.channels) && bitsWords(c.w) != c.want {
			t.Errorf("P11.1: %s: by the words bits %s, want %s", c.what, bitsWords(c.w), c.want)
		}
	}
}

// checkPut holds Put behind some bits against the words.
func checkPut(t *testing.T, ahead string, w api.Weave, channels int) {
	t.Helper()
	var p pipe.Writer
	for _, letter := range ahead {
		p.Put(uint64(letter-'0'), 1)
	}
	good, want := goodWords(w, channels), ahead
	if good {
		want += bitsWords(w)
	}
	if put := Put(&p, w, channels); put != good || bitsOf(&p) != want {
		t.Fatalf("P11.1: Put of %v among %d, behind %q: %t, bits %s, want %t, %s", w, channels, ahead, put, bitsOf(&p), good, want)
	}
	p.Put(5, 3)
	if bitsOf(&p) != want+"101" {
		t.Fatalf("P11.1: behind Put of %v among %d: bits %s, want %s101", w, channels, bitsOf(&p), want)
	}
}

func TestPutByTheWords(t *testing.T) {
	rnd := rand.New(rand.NewSource(8))
	for range 3000 {
		checkPut(t, strings.Repeat("10", 5)[:rnd.Intn(11)], anyWeave(rnd), 1+rnd.Intn(9))
	}
	for master := range 8 {
		for channels := range 9 {
			checkPut(t, "1", some(master, 0, 8, 0), channels)
		}
	}
	for place := range 3 {
		for gain := -17; gain <= 16; gain++ {
			w := some(3, 0, 0, 0)
			w.Gains[place] = gain
			checkPut(t, "1", w, 4)
		}
	}
}

// A weave that isn't good leaves a writer as it is, wherever it is.
func TestPutOfWhatIsNotGood(t *testing.T) {
	for ahead := range 9 {
		bits := strings.Repeat("1", ahead)
		for _, w := range noWeaves() {
			for _, channels := range []int{1, 2, 8, 9, 0, -1, math.MinInt, math.MaxInt} {
				checkPut(t, bits, w, channels)
			}
		}
		for _, channels := range []int{3, 2, 1, 0, -1, math.MinInt} {
			checkPut(t, bits, some(3, 0, 8, 0), channels)
		}
	}
}
