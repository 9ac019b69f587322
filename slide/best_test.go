package slide

import (
	"math/rand"
	"slices"
	"testing"
)

func TestBest(t *testing.T) {
	for _, c := range []struct {
		name string
		l    []int
		p    Parts
		bits int
	}{
		{"one 0", []int{0}, Parts{0, []int{0}}, 8},
		{"one 5: 5 bits under 2 and 3", []int{5}, Parts{0, []int{2}}, 12},
		{"zeros", many(8, 0), Parts{0, []int{0}}, 15},
		{"1024 zeros", many(1024, 0), Parts{0, []int{0}}, 1031},
		{"the greatest", many(4, greatest), Parts{0, []int{0}}, 7 + 4*59},
		{"1024 of the least", many(1024, least), Parts{0, []int{0}}, 7 + 1024*59},
		{"two halves", append(many(8, 0), many(8, 40)...), Parts{1, []int{0, 5}}, 2 + 5 + 8 + 5 + 8*8},
		{"quarters", slices.Concat(many(32, 0), many(32, 1000), many(32, 0), many(32, 1000)), Parts{2, []int{0, 10, 0, 10}}, 2 + 4*5 + 64 + 64*12},
		{"eighths", slices.Concat(many(112, 0), many(16, 1000)), Parts{3, []int{0, 0, 0, 0, 0, 0, 0, 10}}, 2 + 8*5 + 112 + 16*12},
		{"its halves, of an odd length, aren't parts", append(many(7, 0), many(8, 1<<32)...), Parts{0, []int{0}}, 7 + 7 + 8*59},
		{"its quarters aren't parts", slices.Concat(many(3, 0), many(3, 1000), many(3, 0), many(3, 1000), many(3, 0), many(3, 1000)), Parts{0, []int{9}}, 7 + 9*10 + 9*13},
	} {
		if p, bits := Best(c.l); !same(p, c.p) || bits != c.bits {
			t.Errorf("P3.1: Best of %s: %v, %d, want %v, %d", c.name, p, bits, c.p, c.bits)
		}
		if got := Bits(c.l, c.p); got != c.bits {
			t.Errorf("P3.1: Bits of %s in %v: %d, want %d", c.name, c.p, got, c.bits)
		}
	}
}

func TestBestWhereTwoAreAsLong(t *testing.T) {
	for _, c := range []struct {
		l    []int
		p    Parts // the best ones
		more Parts // others that have as many bits
		bits int
	}{
		{[]int{0, 45}, Parts{0, []int{5}}, Parts{1, []int{0, 5}}, 21},
		{[]int{18, 0, 0, 0, 0, 39, 0, 0}, Parts{0, []int{3}}, Parts{2, []int{3, 0, 4, 0}}, 52},
		{[]int{57, 0, 0, 0, 0, 0, 0, 0}, Parts{1, []int{4, 0}}, Parts{2, []int{5, 0, 0, 0}}, 43},
		{slices.Concat(many(8, 0), many(2, 176), many(4, 0), many(2, 312)), Parts{1, []int{0, 7}}, Parts{3, []int{0, 0, 0, 0, 7, 0, 0, 8}}, 96},
		{[]int{10, 10, 184, 184, 0, 0, 357, 357, 0, 0, 0, 0, 348, 348, 109, 109}, Parts{2, []int{7, 8, 0, 8}}, Parts{3, []int{3, 7, 0, 8, 0, 0, 8, 7}}, 142},
	} {
		if p, bits := Best(c.l); !same(p, c.p) || bits != c.bits {
			t.Errorf("P3.1: Best of %v: %v, %d, want %v, %d", c.l, p, bits, c.p, c.bits)
		}
		if one, two := Bits(c.l, c.p), Bits(c.l, c.more); one != c.bits || two != c.bits {
			t.Errorf("P3.1: Bits of %v: %d and %d, want %d", c.l, one, two, c.bits)
		}
	}
}

// keyOf gives a part's least parameter of the fewest bits, and these, by the
// words of chapter 2.
func keyOf(part []int) (int, int) {
	key, fewest := 0, -1
	for k := range 25 {
		bits := 0
		for _, n := range part {
			bits += len(codeOf(n, k))
		}
		if fewest < 0 || bits < fewest {
			key, fewest = k, bits
		}
	}
	return key, fewest
}

// plainBest goes through all P, by the chapter's words; it tells, too, which
// ones are as short.
func plainBest(l []int) (best Parts, fewest int, ties []int) {
	for _, power := range powersOf(len(l)) {
		p, bits := Parts{P: power}, 2
		for part := range slices.Chunk(l, len(l)/(1<<power)) {
			k, total := keyOf(part)
			p.K = append(p.K, k)
			bits += 5 + total
		}
		if fewest == 0 || bits < fewest {
			best, fewest, ties = p, bits, nil
		}
		if bits == fewest {
			ties = append(ties, power)
		}
	}
	return best, fewest, ties
}

// checkBest holds Best against the chapter's words, and gives the P that are
// as short.
func checkBest(t *testing.T, l []int) []int {
	t.Helper()
	want, fewest, ties := plainBest(l)
	if p, bits := Best(l); !same(p, want) || bits != fewest {
		t.Fatalf("P3.1: Best of %v: %v, %d, want %v, %d", l, p, bits, want, fewest)
	}
	if got := Bits(l, want); got != fewest {
		t.Fatalf("P3.1: Bits of %v in %v: %d, want %d", l, want, got, fewest)
	}
	return ties
}

func TestBestByTheWords(t *testing.T) {
	rnd, won := rand.New(rand.NewSource(3)), [4]int{}
	for range 400 {
		l := anyList(rnd)
		won[checkBest(t, l)[0]]++
	}
	for p, count := range won {
		if count < 5 {
			t.Errorf("P3.1: P %d is best in %d lists only", p, count)
		}
	}
}

func TestBestOfManyTies(t *testing.T) {
	rnd, ties := rand.New(rand.NewSource(4)), [4]int{}
	for range 3000 {
		l, run := make([]int, 2<<rnd.Intn(4)), 1+rnd.Intn(2)
		for i := range l {
			l[i] = rnd.Intn(2) * rnd.Intn(25*len(l))
			if i%run > 0 {
				l[i] = l[i-1]
			}
		}
		if as := checkBest(t, l); len(as) > 1 {
			ties[as[0]]++
		}
	}
	for p, count := range ties[:3] {
		if count < 5 {
			t.Errorf("P3.1: P %d is as short as a greater one in %d lists only", p, count)
		}
	}
}

func TestNoPartsAreShorter(t *testing.T) {
	rnd := rand.New(rand.NewSource(5))
	for range 300 {
		l := anyList(rnd)
		_, fewest := Best(l)
		for range 40 {
			p := anyParts(rnd, len(l))
			if bits := Bits(l, p); bits < fewest {
				t.Fatalf("P3.3: %v has %d bits in %v, %d in the best parts", l, bits, p, fewest)
			}
		}
	}
}

func TestNoPartsOfAllAreShorter(t *testing.T) {
	rnd := rand.New(rand.NewSource(6))
	for _, bits := range []int{3, 10, 33} {
		l := make([]int, 4)
		for i := range l {
			l[i] = rnd.Intn(1<<bits) - 1<<bits/2
		}
		_, fewest := Best(l)
		shortest := 0
		for p := range 3 {
			for x := range 1 << (5 << p) {
				keys := []int{x & 31, x >> 5 & 31, x >> 10 & 31, x >> 15}[:1<<p]
				if b := Bits(l, Parts{p, keys}); b > 0 && (shortest == 0 || b < shortest) {
					shortest = b
				}
			}
		}
		if shortest != fewest {
			t.Errorf("P3.3: Best of %v: %d bits, but others have %d", l, fewest, shortest)
		}
	}
}

func TestBestIsPutWithItsBits(t *testing.T) {
	rnd := rand.New(rand.NewSource(7))
	for range 300 {
		l := anyList(rnd)
		p, bits := Best(l)
		if text := wordsOf(l, p); len(text) != bits {
			t.Fatalf("P3.1: Best of %v: %d bits, want %d", l, bits, len(text))
		}
		checkPut(t, l, p, wordsOf(l, p))
	}
}
