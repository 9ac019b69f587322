package toll

import (
	"math"
	"math/rand"
	"testing"
)

func TestZerosOneByOne(t *testing.T) {
	b := make([]byte, 3000)
	for n := range b {
		if got, want := Zeros(n), plain(b[:n]); got != want {
			t.Fatalf("P4.1: Zeros(%d): %08X, want %08X", n, got, want)
		}
	}
}

// The great ones were found once by hash/crc32, over all these bytes.
func TestZerosThatAreKnown(t *testing.T) {
	for n, want := range map[int]uint32{
		0:         0,
		1:         0xD202EF8D,
		4:         0x2144DF1C,
		1 << 16:   0xD7978EEB,
		1 << 24:   0xA47CA14A,
		1 << 31:   0x4DBDF21C,
		1 << 32:   0xD202EF8D,
		1<<32 + 1: 0x41D912FF,
		1 << 36:   0xECBB4B55,
		1<<40 - 1: 0xF48516AC,
		1 << 40:   0x0D968558,
	} {
		if got := Zeros(n); got != want {
			t.Errorf("P4.1: Zeros(%d): %08X, want %08X", n, got, want)
		}
	}
}

func TestZerosOfGreatNumbers(t *testing.T) {
	for _, n := range great(rand.New(rand.NewSource(3))) {
		if got, want := Zeros(n), ^gridOf(n).of(0xFFFFFFFF); got != want {
			t.Errorf("P4.1: Zeros(%d): %08X, want %08X", n, got, want)
		}
	}
}

func TestJoinOfBytes(t *testing.T) {
	rnd := rand.New(rand.NewSource(4))
	for range 2000 {
		a, b := anyBytes(rnd, 70), anyBytes(rnd, 70)
		both := append(append([]byte{}, a...), b...)
		if got, want := Join(plain(a), plain(b), len(b)), plain(both); got != want {
			t.Fatalf("P4.1: Join of %X and %X: %08X, want %08X", a, b, got, want)
		}
	}
}

func TestJoinAtEachPlaceOfLongBytes(t *testing.T) {
	b := make([]byte, 1<<17+11)
	rand.New(rand.NewSource(5)).Read(b)
	want := plain(b)
	for at := 0; at <= len(b); at += 997 {
		if got := Join(Sum(b[:at]), Sum(b[at:]), len(b)-at); got != want {
			t.Fatalf("P4.1: Join at %d: %08X, want %08X", at, got, want)
		}
	}
}

func TestJoinOfNoBytes(t *testing.T) {
	rnd := rand.New(rand.NewSource(6))
	for range 100 {
		sum := rnd.Uint32()
		if got := Join(sum, 0, 0); got != sum {
			t.Errorf("P4.1: Join(%08X, 0, 0): %08X", sum, got)
		}
		n := rnd.Intn(1 << 40)
		if got := Join(0, sum, n); got != sum {
			t.Errorf("P4.1: Join(0, %08X, %d): %08X", sum, n, got)
		}
	}
}

// Zeros stand behind bytes, and other bytes behind the zeros: all of them but
// the zeros are taken bit by bit.
func TestJoinWithGreatNumbers(t *testing.T) {
	rnd := rand.New(rand.NewSource(7))
	for _, n := range great(rnd) {
		a, b := anyBytes(rnd, 20), anyBytes(rnd, 20)
		n -= len(b)
		register := gridOf(n).of(^plain(a))
		if got, want := Join(plain(a), Zeros(n), n), ^register; got != want {
			t.Fatalf("P4.1: Join of %X and %d zeros: %08X, want %08X", a, n, got, want)
		}
		behind := Join(Zeros(n), plain(b), len(b))
		if got, want := Join(plain(a), behind, n+len(b)), ^through(register, b); got != want {
			t.Fatalf("P4.1: Join of %X, %d zeros and %X: %08X, want %08X", a, n, b, got, want)
		}
	}
}

func TestJoinOfZeros(t *testing.T) {
	rnd := rand.New(rand.NewSource(8))
	for range 300 {
		m, n := rnd.Intn(1<<39), rnd.Intn(1<<39)
		if got, want := Join(Zeros(m), Zeros(n), n), Zeros(m+n); got != want {
			t.Fatalf("P4.1: Join of %d and %d zeros: %08X, want %08X", m, n, got, want)
		}
	}
}

// Of such numbers nothing is promised but that the calls end.
func TestNumbersThatAreNotAllowed(t *testing.T) {
	for _, n := range []int{-1, -5, -1 << 40, math.MinInt, 1<<40 + 1, math.MaxInt} {
		Zeros(n)
		Join(0xCBF43926, 0xD202EF8D, n)
	}
}
