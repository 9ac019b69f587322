package toll

import (
	"math/rand"
	"testing"
)

// holds tells whether a tally is what has taken these bytes.
func holds(t *testing.T, x *Tally, b []byte) {
	t.Helper()
	if x.Sum() != plain(b) || x.Len() != len(b) {
		t.Fatalf("P4.1: a Tally of %X: %08X, %d, want %08X, %d", b, x.Sum(), x.Len(), plain(b), len(b))
	}
}

func TestTallyThatTookNothing(t *testing.T) {
	var x Tally
	holds(t, &x, nil)
	x.Add(nil)
	holds(t, &x, nil)
	x.Add([]byte{})
	holds(t, &x, nil)
}

func TestTallyOfTheExample(t *testing.T) {
	text := []byte("123456789")
	for i := range text {
		for j := i; j <= len(text); j++ {
			var x Tally
			x.Add(text[:i])
			x.Add(text[i:j])
			x.Add(text[j:])
			if x.Sum() != 0xCBF43926 || x.Len() != 9 {
				t.Errorf("P4.1: a Tally, parted at %d and %d: %08X, %d", i, j, x.Sum(), x.Len())
			}
		}
	}
}

func TestTallyAtOnce(t *testing.T) {
	rnd := rand.New(rand.NewSource(9))
	for range 200 {
		b := anyBytes(rnd, 900)
		var x Tally
		x.Add(b)
		holds(t, &x, b)
	}
}

// It is asked behind each part: being asked must not change what comes.
func TestTallyInParts(t *testing.T) {
	rnd := rand.New(rand.NewSource(10))
	for range 100 {
		var x Tally
		var all []byte
		for range 20 {
			part := anyBytes(rnd, 1+rnd.Intn(30))
			x.Add(part)
			all = append(all, part...)
			holds(t, &x, all)
			holds(t, &x, all)
		}
	}
}

func TestTallyByteByByte(t *testing.T) {
	b := make([]byte, 1000)
	rand.New(rand.NewSource(11)).Read(b)
	var x Tally
	for i := range b {
		holds(t, &x, b[:i])
		x.Add(b[i : i+1])
	}
	holds(t, &x, b)
}

func TestTalliesByTurns(t *testing.T) {
	rnd := rand.New(rand.NewSource(12))
	for range 50 {
		var x [2]Tally
		var all [2][]byte
		for range 30 {
			turn := rnd.Intn(2)
			part := anyBytes(rnd, 12)
			x[turn].Add(part)
			all[turn] = append(all[turn], part...)
			Sum(part)
			holds(t, &x[0], all[0])
			holds(t, &x[1], all[1])
		}
	}
}

func TestTallyThatIsCopied(t *testing.T) {
	var x Tally
	x.Add([]byte("12345"))
	y := x
	y.Add([]byte("6789"))
	holds(t, &x, []byte("12345"))
	holds(t, &y, []byte("123456789"))
}
