package lag

import (
	"math"
	"math/bits"
	"math/rand"
	"slices"
	"testing"

	"sackbut/wide"
)

func TestBest(t *testing.T) {
	for _, c := range []struct {
		what string
		l    []int
		want Term
	}{
		{"no numbers", nil, Term{}},
		{"none of them", []int{}, Term{}},
		{"one number", []int{5}, Term{}},
		{"one number at an end", []int{-end}, Term{}},
		{"numbers of 0", []int{0, 0, 0, 0}, Term{}},
		{"a half each", []int{160, 80, 40, 20, 10, 5}, Term{1, 8}},
		{"two numbers, the same", []int{16, 16}, Term{1, 15}},
		{"two numbers, a quarter", []int{16, 4}, Term{1, 4}},
		{"two numbers below 0", []int{-16, -16}, Term{1, 15}},
		{"two numbers of two signs", []int{16, -16}, Term{}},
		{"signs that turn", []int{100, -100, 100, -100, 100, -100}, Term{2, 15}},
		{"the greater lag is better", []int{16, 0, 16, 0, 16, 0}, Term{2, 15}},
		{"the greater lag, the lesser gain", []int{16, 0, 0, 4, 0, 0}, Term{3, 4}},
		{"the chapter's numbers", []int{10, 4, 10, 4}, Term{2, 15}},
		{"at the ends", []int{end, -end, -end, end, -end, -end}, Term{3, 15}},

		{"one is as good as none", []int{32, 1}, Term{}},
		{"most are as good as none", []int{1, 0, 0}, Term{}},
		{"the least gain of two", []int{0, 32, 32, 8, 0}, Term{1, 4}},
		{"the least gain of all", []int{-1, -1}, Term{1, 1}},
		{"the least gain of those that leave nothing", []int{2, 1}, Term{1, 8}},
		{"the least lag of two", []int{16, 8, 12}, Term{1, 8}},
		{"the least lag of 1 and 3, of the greater gain", []int{24, 12, -4, 4}, Term{1, 8}},
		{"the least lag of 2 and 3, of the greater gain", []int{16, -8, 8, 4}, Term{2, 8}},
		{"the least lag, and its least gain", []int{20, 16, 0, 4}, Term{1, 12}},
	} {
		if got := Best(c.l); got != c.want {
			t.Errorf("P8.1: %s: Best of %v: %v, want %v", c.what, c.l, got, c.want)
		}
	}
}

func TestTermsOfTheSameSum(t *testing.T) {
	for _, c := range []struct {
		l    []int
		a, b Term
	}{
		{[]int{32, 1}, Term{}, Term{1, 1}},
		{[]int{1, 0, 0}, Term{}, Term{2, 15}},
		{[]int{0, 32, 32, 8, 0}, Term{1, 4}, Term{1, 5}},
		{[]int{-1, -1}, Term{1, 1}, Term{1, 15}},
		{[]int{2, 1}, Term{1, 8}, Term{1, 15}},
		{[]int{16, 8, 12}, Term{1, 8}, Term{2, 12}},
		{[]int{24, 12, -4, 4}, Term{1, 8}, Term{3, 3}},
		{[]int{16, -8, 8, 4}, Term{2, 8}, Term{3, 4}},
		{[]int{20, 16, 0, 4}, Term{1, 12}, Term{1, 13}},
		{[]int{20, 16, 0, 4}, Term{1, 12}, Term{3, 3}},
	} {
		if sumWords(c.a, c.l) != sumWords(c.b, c.l) {
			t.Errorf("P8.1: by %v and %v the sums of %v aren't the same", c.a, c.b, c.l)
		}
		if got := Best(c.l); got != c.a {
			t.Errorf("P8.1: Best of %v: %v, want %v", c.l, got, c.a)
		}
	}
}

func checkBest(t *testing.T, l []int) (best Term, tie bool) {
	t.Helper()
	best, tie = bestWords(l)
	if got := Best(l); got != best {
		t.Fatalf("P8.1: Best of %v: %v, want %v", l, got, best)
	}
	return best, tie
}

func TestBestByTheWords(t *testing.T) {
	rnd := rand.New(rand.NewSource(8))
	noneTies, someTies := 0, 0
	for range 4000 {
		most := []int{1, 3, 20, 1 << 15, end}[rnd.Intn(5)]
		best, tie := checkBest(t, anyNumbers(rnd, rnd.Intn(30), most))
		if tie && best == (Term{}) {
			noneTies++
		} else if tie {
			someTies++
		}
	}
	if noneTies < 100 || someTies < 100 {
		t.Errorf("P8.1: none has another one's sum in %d lists, some in %d", noneTies, someTies)
	}
}

// comingAgain are small numbers and a great one, which that term foretells again
// and again.
func comingAgain(rnd *rand.Rand, term Term, count int) []int {
	l := anyNumbers(rnd, count, 9)
	l[rnd.Intn(min(term.Lag, count-term.Lag))] = (2*rnd.Intn(2) - 1) << 30
	out, _ := onWords(term, l)
	return out
}

func TestBestOfWhatComesAgain(t *testing.T) {
	rnd := rand.New(rand.NewSource(9))
	for lag := 1; lag <= 255; lag++ {
		term := Term{lag, 1 + lag%15}
		if best, _ := checkBest(t, comingAgain(rnd, term, lag+60)); best != term {
			t.Errorf("P8.1: of what comes again by %v the best is %v", term, best)
		}
	}
	for _, lag := range []int{1, 2, 254, 255} {
		for gain := 1; gain <= 15; gain++ {
			term := Term{lag, gain}
			if best, _ := checkBest(t, comingAgain(rnd, term, 320)); best != term {
				t.Errorf("P8.1: of what comes again by %v the best is %v", term, best)
			}
		}
	}
}

// A lag is of use from the first number on that it takes something off of.
func TestLagsBelowHowManyNumbersThereAre(t *testing.T) {
	for _, lag := range []int{1, 2, 3, 16, 100, 254, 255, 256, 257, 300} {
		l := make([]int, lag+1)
		l[0], l[lag] = 1600, 700
		want := Term{}
		if lag <= 255 {
			want = Term{lag, 7}
		}
		if got := Best(l); got != want {
			t.Errorf("P8.1: Best of two numbers %d places apart: %v, want %v", lag, got, want)
		}
		if got := Best(l[:lag]); got != (Term{}) {
			t.Errorf("P8.1: Best of the first one of them: %v, want none", got)
		}
	}
}

func TestBestOfManyNumbers(t *testing.T) {
	rnd := rand.New(rand.NewSource(10))
	term := Term{177, 14}
	if best, _ := checkBest(t, comingAgain(rnd, term, 1<<15)); best != term {
		t.Errorf("P8.1: of what comes again by %v the best is %v", term, best)
	}
}

// Each but the first leaves 31 times 2^36: a sum that has no room in 64 bits.
func TestSumsThatHaveNoRoomIn64Bits(t *testing.T) {
	l := slices.Repeat([]int{end, -end}, 4500000)
	high, low := bits.Mul64(31*uint64(len(l)-1)+16, 1<<36)
	if high == 0 {
		t.Fatal("P8.1: the sum has room")
	}
	if got, want := tried(Term{1, 15}, l), (trial{Term{1, 15}, wide.Sum{High: high, Low: low}}); got != want {
		t.Errorf("P8.1: of %d numbers: %v, want %v", len(l), got, want)
	}
	few, most := trial{sum: wide.Sum{Low: math.MaxUint64}}, trial{sum: wide.Sum{High: 1}}
	if !few.sum.Less(most.sum) || most.sum.Less(few.sum) {
		t.Error("P8.1: sums of more than 64 bits aren't held against each other")
	}
}

// Of such numbers nothing is promised but that the call ends.
func TestBestOfNumbersOutside(t *testing.T) {
	for _, n := range outsides() {
		for place := range 5 {
			l := []int{16, 16, 16, 16, 16}
			l[place] = n
			if got := Best(l); got != (Term{}) {
				t.Errorf("P7: Best of %v: %v, want none", l, got)
			}
		}
	}
}
