package lag

import (
	"math"
	"testing"
)

func TestGood(t *testing.T) {
	for _, c := range []struct {
		what string
		term Term
		want bool
	}{
		{"the one that does nothing", Term{}, true},
		{"both least", Term{1, 1}, true},
		{"both greatest", Term{255, 15}, true},
		{"the least lag, the greatest gain", Term{1, 15}, true},
		{"the greatest lag, the least gain", Term{255, 1}, true},
		{"in between", Term{100, 8}, true},
		{"one lag below", Term{-1, 1}, false},
		{"one lag above", Term{256, 1}, false},
		{"one gain below", Term{1, -1}, false},
		{"one gain above", Term{1, 16}, false},
		{"no lag alone", Term{0, 1}, false},
		{"no lag alone, the greatest gain", Term{0, 15}, false},
		{"no gain alone", Term{1, 0}, false},
		{"no gain alone, the greatest lag", Term{255, 0}, false},
	} {
		if got := c.term.Good(); got != c.want {
			t.Errorf("P8.1: %s: may %v be: %v", c.what, c.term, got)
		}
	}
	for _, term := range noTerms() {
		if term.Good() {
			t.Errorf("P8.1: %v may be", term)
		}
	}
}

func TestGoodByTheWords(t *testing.T) {
	good := 0
	for lag := -300; lag <= 600; lag++ {
		for gain := -40; gain <= 300; gain++ {
			term := Term{lag, gain}
			if term.Good() != goodWords(term) {
				t.Fatalf("P8.1: may %v be: %v", term, term.Good())
			}
			if term.Good() {
				good++
			}
		}
	}
	if good != 1+255*15 {
		t.Errorf("P8.1: %d terms may be", good)
	}
	ends := []int{math.MinInt, -1 << 32, -1, 0, 1, 15, 16, 255, 256, 1<<32 + 1, math.MaxInt}
	for _, lag := range ends {
		for _, gain := range ends {
			if term := (Term{lag, gain}); term.Good() != goodWords(term) {
				t.Errorf("P8.1: may %v be: %v", term, term.Good())
			}
		}
	}
}
