package toll

import (
	"bytes"
	"math/rand"
	"testing"
)

func TestSumsThatAreKnown(t *testing.T) {
	for text, want := range map[string]uint32{
		"":                 0,
		"123456789":        0xCBF43926,
		"\x00":             0xD202EF8D,
		"\xff":             0xFF000000,
		"\x00\x00\x00\x00": 0x2144DF1C,
		"\xff\xff\xff\xff": 0xFFFFFFFF,
		"a":                0xE8B7BE43,
		"abc":              0x352441C2,
		"The quick brown fox jumps over the lazy dog": 0x414FA339,
	} {
		if got := Sum([]byte(text)); got != want {
			t.Errorf("P4.1: Sum(%q): %08X, want %08X", text, got, want)
		}
	}
	if got := Sum(nil); got != 0 {
		t.Errorf("R5: Sum(nil): %08X, want 0", got)
	}
}

func TestSumOfOneByteAndOfTwo(t *testing.T) {
	for i := range 256 {
		one := []byte{byte(i)}
		if got, want := Sum(one), plain(one); got != want {
			t.Errorf("P4.1: Sum(%X): %08X, want %08X", one, got, want)
		}
		for j := range 256 {
			two := []byte{byte(i), byte(j)}
			if got, want := Sum(two), plain(two); got != want {
				t.Fatalf("P4.1: Sum(%X): %08X, want %08X", two, got, want)
			}
		}
	}
}

func TestSumOfEachLength(t *testing.T) {
	rnd := rand.New(rand.NewSource(1))
	for length := range 600 {
		b := make([]byte, length)
		rnd.Read(b)
		if got, want := Sum(b), plain(b); got != want {
			t.Fatalf("P4.1: Sum(%X): %08X, want %08X", b, got, want)
		}
	}
}

func TestSumOfLongBytes(t *testing.T) {
	rnd := rand.New(rand.NewSource(2))
	mixed := make([]byte, 1<<20+3)
	rnd.Read(mixed)
	for name, b := range map[string][]byte{
		"of any value": mixed,
		"all 0":        make([]byte, 1<<20),
		"all FF":       bytes.Repeat([]byte{0xFF}, 1<<20+1),
		"00 FF":        bytes.Repeat([]byte{0, 0xFF}, 1<<19),
	} {
		if got, want := Sum(b), plain(b); got != want {
			t.Errorf("P4.1: Sum of long bytes, %s: %08X, want %08X", name, got, want)
		}
	}
}
