package toll

import (
	"bytes"
	"math/rand"
	"slices"
	"testing"
)

func TestWhatIsHandedInStays(t *testing.T) {
	rnd := rand.New(rand.NewSource(18))
	for range 300 {
		room := slices.Clip(append(anyBytes(rnd, 300), 0xA5, 0x5A, 0xFF))
		kept := bytes.Clone(room)
		b := room[:len(room)-3]
		Sum(b)
		if !bytes.Equal(room, kept) {
			t.Fatalf("P4.3: Sum changes what it is handed: %X, was %X", room, kept)
		}
		var x Tally
		x.Add(b)
		x.Sum()
		x.Len()
		if !bytes.Equal(room, kept) {
			t.Fatalf("P4.3: a Tally changes what it is handed: %X, was %X", room, kept)
		}
	}
}

func TestTallyKeepsNoBytes(t *testing.T) {
	rnd := rand.New(rand.NewSource(19))
	for range 300 {
		var x Tally
		var all []byte
		room := make([]byte, 40)
		for range 5 {
			part := room[:rnd.Intn(len(room))]
			rnd.Read(part)
			all = append(all, part...)
			x.Add(part)
			rnd.Read(room)
		}
		holds(t, &x, all)
	}
}

func TestAnswersDependOnArguments(t *testing.T) {
	rnd := rand.New(rand.NewSource(20))
	for range 100 {
		b, n := anyBytes(rnd, 60), rnd.Intn(1<<40)
		sum, zeros, joined := Sum(b), Zeros(n), Join(Sum(b), 7, n)
		Sum(anyBytes(rnd, 60))
		Zeros(n + 1)
		if Sum(bytes.Clone(b)) != sum || Zeros(n) != zeros || Join(sum, 7, n) != joined {
			t.Fatalf("R8: asked again of %X and %d, other sums", b, n)
		}
	}
}
