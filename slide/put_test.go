package slide

import (
	"math"
	"math/rand"
	"testing"

	"sackbut/pipe"
)

func TestGood(t *testing.T) {
	for _, c := range []struct {
		name string
		n    int
		p    Parts
		want bool
	}{
		{"one number", 1, Parts{0, []int{0}}, true},
		{"the most numbers", 1024, Parts{0, []int{0}}, true},
		{"the most numbers, the most parts", 1024, Parts{3, []int{0, 24, 1, 2, 3, 4, 5, 6}}, true},
		{"as many parts as numbers", 8, Parts{3, make([]int, 8)}, true},
		{"two numbers, two parts", 2, Parts{1, []int{24, 0}}, true},
		{"four parts of three", 12, Parts{2, make([]int, 4)}, true},
		{"an odd length", 1023, Parts{0, []int{7}}, true},
		{"no numbers", 0, Parts{0, []int{0}}, false},
		{"no numbers, eight parts", 0, Parts{3, make([]int, 8)}, false},
		{"one too many", 1025, Parts{0, []int{0}}, false},
		{"1032, in eight parts", 1032, Parts{3, make([]int, 8)}, false},
		{"fewer than none", -8, Parts{3, make([]int, 8)}, false},
		{"the fewest", math.MinInt, Parts{0, []int{0}}, false},
		{"the most that can be", math.MaxInt, Parts{0, []int{0}}, false},
		{"P below", 8, Parts{-1, []int{0}}, false},
		{"P below, no K", 8, Parts{-1, nil}, false},
		{"P above", 1024, Parts{4, make([]int, 16)}, false},
		{"the least P", 8, Parts{math.MinInt, []int{0}}, false},
		{"the greatest P", 8, Parts{math.MaxInt, nil}, false},
		{"P of 64", 64, Parts{64, nil}, false},
		{"one number, two parts", 1, Parts{1, make([]int, 2)}, false},
		{"no multiple of 2", 7, Parts{1, make([]int, 2)}, false},
		{"no multiple of 4", 6, Parts{2, make([]int, 4)}, false},
		{"no multiple of 8", 12, Parts{3, make([]int, 8)}, false},
		{"fewer than parts", 4, Parts{3, make([]int, 8)}, false},
		{"no K", 8, Parts{0, nil}, false},
		{"an empty K", 8, Parts{0, []int{}}, false},
		{"zero parts", 8, Parts{}, false},
		{"one K too many", 8, Parts{0, []int{0, 0}}, false},
		{"one K too few", 8, Parts{1, []int{0}}, false},
		{"seven of eight", 8, Parts{3, make([]int, 7)}, false},
		{"nine of eight", 8, Parts{3, make([]int, 9)}, false},
		{"K of 24", 8, Parts{0, []int{24}}, true},
		{"K of 25", 8, Parts{0, []int{25}}, false},
		{"K of -1", 8, Parts{0, []int{-1}}, false},
		{"the last K of 25", 8, Parts{3, []int{0, 0, 0, 0, 0, 0, 0, 25}}, false},
		{"one K in the midst of -1", 8, Parts{2, []int{0, -1, 0, 0}}, false},
		{"the greatest K", 8, Parts{0, []int{math.MaxInt}}, false},
		{"the least K", 8, Parts{0, []int{math.MinInt}}, false},
	} {
		if got := Good(c.n, c.p); got != c.want {
			t.Errorf("P3.1: Good of %s: %v, want %v", c.name, got, c.want)
		}
	}
}

func TestGoodByTheWords(t *testing.T) {
	for n := -20; n <= 1100; n++ {
		for p := -3; p <= 6; p++ {
			for count := range 20 {
				want := n >= 1 && n <= 1024 && p >= 0 && p <= 3 && count == int(math.Pow(2, float64(p))) && n%count == 0
				if got := Good(n, Parts{p, make([]int, count)}); got != want {
					t.Fatalf("P3.1: Good of %d, P %d, %d K: %v, want %v", n, p, count, got, want)
				}
			}
		}
	}
}

// checkPut puts a list behind some bits: it has these bits, and no others.
func checkPut(t *testing.T, l []int, p Parts, want string) {
	t.Helper()
	for _, ahead := range []string{"", "101", "1111111"} {
		var w pipe.Writer
		for _, x := range ahead {
			w.Put(uint64(x-'0'), 1)
		}
		if !Put(&w, l, p) {
			t.Fatalf("P3.1: Put of %v in %v: no", l, p)
		}
		if got := textOf(w.Bytes()); w.Len() != len(ahead+want) || got[:w.Len()] != ahead+want {
			t.Fatalf("P3.1: Put of %v in %v behind %q: %s, want %s", l, p, ahead, got, ahead+want)
		}
	}
	if got := Bits(l, p); got != len(want) {
		t.Fatalf("P3.1: Bits of %v in %v: %d, want %d", l, p, got, len(want))
	}
	if !Good(len(l), p) {
		t.Fatalf("P3.1: Good of %d, %v: no", len(l), p)
	}
}

func TestPut(t *testing.T) {
	whole := zeros(24) + "1"
	for _, c := range []struct {
		l    []int
		p    Parts
		want string
	}{
		{[]int{0}, Parts{0, []int{0}}, "00" + "00000" + "1"},
		{[]int{0}, Parts{0, []int{24}}, "00" + "11000" + "1" + zeros(24)},
		{[]int{-1, 5}, Parts{0, []int{2}}, "00" + "00010" + "101" + "00110"},
		{[]int{-1, 5}, Parts{1, []int{0, 2}}, "01" + "00000" + "01" + "00010" + "00110"},
		{[]int{0, 0, 9, -9}, Parts{1, []int{0, 3}}, "01" + "00000" + "1" + "1" + "00011" + "001010" + "001001"},
		{[]int{0, -1, 1, 0}, Parts{2, []int{0, 1, 2, 3}}, "10" + "00000" + "1" + "00001" + "11" + "00010" + "110" + "00011" + "1000"},
		{[]int{0, 0, 0, 0, 0, 0, 0, -1}, Parts{3, make([]int, 8)}, "11" + "000001000001000001000001000001000001000001" + "0000001"},
		{[]int{greatest}, Parts{0, []int{0}}, "00" + "00000" + whole + "1111111111111111111111111111111110"},
		{[]int{least}, Parts{0, []int{24}}, "00" + "11000" + whole + "1111111111111111111111111111111111"},
	} {
		checkPut(t, c.l, c.p, c.want)
		if got := wordsOf(c.l, c.p); got != c.want {
			t.Errorf("the test's own words of %v in %v: %s, want %s", c.l, c.p, got, c.want)
		}
	}
}

func TestPutByTheWords(t *testing.T) {
	rnd := rand.New(rand.NewSource(1))
	for range 1500 {
		l := anyList(rnd)
		p := anyParts(rnd, len(l))
		checkPut(t, l, p, wordsOf(l, p))
	}
}

func TestPutOfLongLists(t *testing.T) {
	rnd := rand.New(rand.NewSource(2))
	for _, n := range []int{1, 2, 4, 8, 1016, 1020, 1022, 1023, 1024} {
		for _, power := range powersOf(n) {
			for _, x := range []int{least, least + 1, -1, 0, greatest - 1, greatest} {
				p := Parts{P: power}
				for range 1 << power {
					p.K = append(p.K, []int{0, 24, rnd.Intn(25)}[rnd.Intn(3)])
				}
				checkPut(t, many(n, x), p, wordsOf(many(n, x), p))
			}
		}
	}
}

// checkNoPut hands in what may not be told: nothing is put, and it has no
// bits.
func checkNoPut(t *testing.T, name string, l []int, p Parts) {
	t.Helper()
	var w pipe.Writer
	w.Put(5, 3)
	if Put(&w, l, p) || w.Len() != 3 || len(w.Bytes()) != 1 || w.Bytes()[0] != 5<<5 {
		t.Errorf("P3.1: Put of %s: %d bits", name, w.Len())
	}
	if got := Bits(l, p); got != 0 {
		t.Errorf("P3.1: Bits of %s: %d, want 0", name, got)
	}
}

func TestListsThatMayNotBe(t *testing.T) {
	for _, c := range []struct {
		name string
		l    []int
	}{
		{"nil", nil},
		{"none", []int{}},
		{"one too many", many(1025, 0)},
		{"1032", many(1032, 0)},
		{"many too many", many(5000, 0)},
		{"a number below", []int{0, 0, least - 1, 0, 0, 0, 0, 0}},
		{"a number above", []int{0, 0, 0, 0, 0, 0, 0, greatest + 1}},
		{"one number below", []int{least - 1}},
		{"one number above", []int{greatest + 1}},
		{"the least int", []int{math.MinInt, 0, 0, 0}},
		{"the greatest int", []int{0, math.MaxInt}},
		{"2^34", many(8, 1<<34)},
		{"the last of 1024", append(many(1023, 0), greatest+1)},
	} {
		for p := range 4 {
			for _, k := range []int{0, 24} {
				checkNoPut(t, c.name, c.l, Parts{p, many(1<<p, k)})
			}
		}
		if p, bits := Best(c.l); bits != 0 || !same(p, Parts{}) {
			t.Errorf("P3.1: Best of %s: %v, %d", c.name, p, bits)
		}
	}
}

func TestPartsThatMayNotBe(t *testing.T) {
	for _, c := range []struct {
		name string
		n    int
		p    Parts
	}{
		{"P below", 8, Parts{-1, []int{0}}},
		{"P above", 1024, Parts{4, make([]int, 16)}},
		{"the least P", 8, Parts{math.MinInt, []int{0}}},
		{"the greatest P", 8, Parts{math.MaxInt, []int{0}}},
		{"no multiple of 2", 1023, Parts{1, make([]int, 2)}},
		{"no multiple of 4", 1022, Parts{2, make([]int, 4)}},
		{"no multiple of 8", 1020, Parts{3, make([]int, 8)}},
		{"one number in two parts", 1, Parts{1, make([]int, 2)}},
		{"no K", 8, Parts{0, nil}},
		{"zero parts", 8, Parts{}},
		{"a K too few", 8, Parts{3, make([]int, 7)}},
		{"a K too many", 8, Parts{3, make([]int, 9)}},
		{"K of 25", 8, Parts{0, []int{25}}},
		{"K of -1", 8, Parts{0, []int{-1}}},
		{"the last K of 25", 8, Parts{1, []int{0, 25}}},
		{"the last K of -1", 8, Parts{2, []int{0, 0, 0, -1}}},
		{"the greatest K", 8, Parts{0, []int{math.MaxInt}}},
		{"the least K", 8, Parts{0, []int{math.MinInt}}},
	} {
		for _, x := range []int{0, -1, least, greatest, least - 1, greatest + 1} {
			checkNoPut(t, c.name, many(c.n, x), c.p)
		}
	}
}
