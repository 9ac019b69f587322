package toll

import (
	"bytes"
	"math/rand"
	"slices"
	"testing"
)

// turned are bytes with some bits of a window of 32 turned; the window begins
// at a bit, in the order in which the sum takes them.
func turned(b []byte, at int, window uint32) []byte {
	b = slices.Clone(b)
	for i := range 32 {
		if window>>i&1 == 1 {
			b[(at+i)/8] ^= 1 << ((at + i) % 8)
		}
	}
	return b
}

func unlike(t *testing.T, b []byte, at int, window uint32) {
	t.Helper()
	if c := turned(b, at, window); Sum(b) == Sum(c) {
		t.Fatalf("P4.2: %X and %X have the same sum, %08X", b, c, Sum(b))
	}
}

func TestFewBitsApart(t *testing.T) {
	rnd := rand.New(rand.NewSource(13))
	b := make([]byte, 9)
	rnd.Read(b)
	for at := range len(b)*8 - 31 {
		for window := uint32(1); window < 1<<10; window++ {
			unlike(t, b, at, window)
			unlike(t, b, at, window<<22)
		}
	}
}

func TestUpTo32BitsApart(t *testing.T) {
	rnd := rand.New(rand.NewSource(14))
	for range 50000 {
		b := make([]byte, 4+rnd.Intn(30))
		rnd.Read(b)
		window := rnd.Uint32()>>rnd.Intn(32) | 1
		unlike(t, b, rnd.Intn(len(b)*8-31), window)
	}
}

func TestApartInLongBytes(t *testing.T) {
	rnd := rand.New(rand.NewSource(15))
	b := make([]byte, 1<<14)
	rnd.Read(b)
	for range 300 {
		unlike(t, b, rnd.Intn(len(b)*8-31), rnd.Uint32()|1)
		unlike(t, b, rnd.Intn(len(b)*8-31), 1)
	}
}

// Sums of bytes of one length differ by the exclusive or of what each turned
// bit differs by. So no window at all is without a difference, if none of its
// bits' differences is made of those of others.
func TestNoWindowIsWithoutADifference(t *testing.T) {
	rnd := rand.New(rand.NewSource(16))
	for _, length := range []int{4, 5, 7, 16, 64} {
		b := make([]byte, length)
		rnd.Read(b)
		for at := range length*8 - 31 {
			var heads [32]uint32
			for i := range 32 {
				if !stands(&heads, Sum(b)^Sum(turned(b, at, 1<<i))) {
					t.Fatalf("P4.2: in %d bytes from bit %d on, bit %d differs by what other bits differ by", length, at, i)
				}
			}
			window := rnd.Uint32()
			if got, want := Sum(turned(b, at, window)), Sum(b)^differs(b, at, window); got != want {
				t.Fatalf("P4.2: bits %08X from bit %d on: %08X, want %08X", window, at, got, want)
			}
		}
	}
}

// stands adds a number to those that stand for themselves, by their highest
// bits; it says no to one that is made of them.
func stands(heads *[32]uint32, n uint32) bool {
	for i := 31; i >= 0; i-- {
		if n>>i&1 == 0 {
			continue
		}
		if heads[i] == 0 {
			heads[i] = n
			return true
		}
		n ^= heads[i]
	}
	return false
}

// differs is what a window's bits differ by, each alone, together.
func differs(b []byte, at int, window uint32) uint32 {
	out := uint32(0)
	for i := range 32 {
		if window>>i&1 == 1 {
			out ^= Sum(b) ^ Sum(turned(b, at, 1<<i))
		}
	}
	return out
}

// The polynomial has 33 bits: turned all together they are not to be seen.
func TestThePolynomialIsNotSeen(t *testing.T) {
	rnd := rand.New(rand.NewSource(17))
	for range 500 {
		b := make([]byte, 5+rnd.Intn(20))
		rnd.Read(b)
		at := rnd.Intn(len(b)*8 - 32)
		c := turned(turned(b, at, 1), at+1, 0xEDB88320)
		if bytes.Equal(b, c) || Sum(b) != Sum(c) {
			t.Fatalf("P4.1: %X and %X: %08X, %08X, want the same", b, c, Sum(b), Sum(c))
		}
	}
}
