package block

import (
	"math/rand"
	"slices"
	"testing"

	"sackbut/api"
	"sackbut/pipe"
)

// comesBack puts a block between other bits, takes it, and puts it again.
func comesBack(t *testing.T, rnd *rand.Rand, b api.Block, n, d int) {
	t.Helper()
	var w pipe.Writer
	bits, ahead, behind := rnd.Intn(20), uint64(rnd.Intn(1<<20)), uint64(rnd.Intn(256))
	w.Put(ahead>>(20-bits), bits)
	if !Put(&w, b, n, d) {
		t.Fatalf("P10.1: Put of %v, n %d, d %d: no", b, n, d)
	}
	w.Put(behind, 8)
	r := pipe.Open(w.Bytes())
	if got := r.Take(bits); got != ahead>>(20-bits) {
		t.Fatalf("P10.2: %d comes back as %d, ahead of a block", ahead>>(20-bits), got)
	}
	got, l := Take(r, n, d)
	want, _ := Samples(b, n, d)
	if !same(got, b) || !slices.Equal(l, want) {
		t.Fatalf("P10.2: %v, n %d, d %d, comes back as %v, %v, want %v", b, n, d, got, l, want)
	}
	if got := r.Take(8); got != behind || r.End() != api.OK {
		t.Fatalf("P10.2: %d comes back as %d behind a block, the reader ends with %d", behind, got, r.End())
	}
}

func TestWhatIsPutIsTaken(t *testing.T) {
	rnd := rand.New(rand.NewSource(12))
	for range 2000 {
		n, d := anyCount(rnd), anyDepth(rnd)
		comesBack(t, rnd, anyBlock(rnd, n, d), n, d)
	}
}

// Blocks at the ends of what they have.
func TestEdgesArePutAndTaken(t *testing.T) {
	rnd := rand.New(rand.NewSource(13))
	for d := 8; d <= 26; d++ {
		half := 1 << (d - 1)
		for _, n := range []int{1, 8, 1023, 1024} {
			blocks := []api.Block{{}}
			for _, x := range []int{-half, -1, 0, half - 1} {
				blocks = append(blocks, api.Block{Kind: api.Const, Value: x})
				blocks = append(blocks, api.Block{Kind: api.Raw, Data: slices.Repeat([]int{x}, n)})
			}
			for shift := range d {
				b := normalOf(shift, steep()[:shift%17], 1+shift*10, 1+shift%15, make([]int, n)...)
				blocks = append(blocks, b)
			}
			for _, b := range blocks {
				comesBack(t, rnd, b, n, d)
			}
		}
	}
}

// What samples are made of comes back as the samples: Plain's and Normal's.
func TestSamplesComeBack(t *testing.T) {
	rnd := rand.New(rand.NewSource(14))
	for range 600 {
		n, d := anyCount(rnd), anyDepth(rnd)
		l := anySamples(rnd, n, d)
		plain, _ := Plain(l, d)
		blocks := []api.Block{plain}
		if b, e := Normal(l, d, anyIndex(rnd), anyTerm(rnd), anyShift(rnd, l, d)); e == api.OK {
			blocks = append(blocks, b)
		}
		for _, b := range blocks {
			var w pipe.Writer
			Put(&w, b, n, d)
			r := pipe.Open(w.Bytes())
			if _, m := Take(r, n, d); !slices.Equal(m, l) || r.End() != api.OK {
				t.Fatalf("P10.2: %v, d %d, told as %v, comes back as %v; the reader ends with %d", l, d, b, m, r.End())
			}
		}
	}
}

// Whatever is taken, of any bits, has just the bits that it is put as.
func TestWhatIsTakenIsPut(t *testing.T) {
	rnd := rand.New(rand.NewSource(15))
	kinds := map[int]int{}
	for range 30000 {
		bits := anyBits(rnd)
		n, d := 1+rnd.Intn(8), anyDepth(rnd)
		r := readerOf(bits)
		b, l := Take(r, n, d)
		if r.Fail() != api.OK {
			continue
		}
		kinds[b.Kind]++
		taken := len(bits) - r.Left()
		if got := putBits(b, n, d); got != bits[:taken] {
			t.Fatalf("P10.2: %v, n %d, d %d, is taken of %s, put as %s", b, n, d, bits[:taken], got)
		}
		if m, e := Samples(b, n, d); !slices.Equal(l, m) || e != api.OK || Bits(b, n, d) != taken {
			t.Fatalf("P10.2: %v, n %d, d %d, is taken with %v, has %v, %d, and %d bits, not %d", b, n, d, l, m, e, Bits(b, n, d), taken)
		}
	}
	for kind := range 4 {
		if kinds[kind] < 300 {
			t.Errorf("P10.2: %d blocks of kind %d are taken", kinds[kind], kind)
		}
	}
}

// anyBits are such as begin as a Normal does more often than others.
func anyBits(rnd *rand.Rand) string {
	text := make([]byte, 100+rnd.Intn(300))
	for i := range text {
		text[i] = "0011"[rnd.Intn(4)]
	}
	if rnd.Intn(4) > 0 {
		return "10" + binary(rnd.Intn(4), 5) + binary(rnd.Intn(10), 5) + string(text)
	}
	return string(text)
}

func TestBlocksOneBehindTheOther(t *testing.T) {
	rnd := rand.New(rand.NewSource(16))
	type put struct {
		b    api.Block
		n, d int
	}
	var all []put
	var w pipe.Writer
	for range 500 {
		x := put{n: anyCount(rnd), d: anyDepth(rnd)}
		x.b = anyBlock(rnd, x.n, x.d)
		if !Put(&w, x.b, x.n, x.d) {
			t.Fatalf("P10.1: Put of %v, n %d, d %d: no", x.b, x.n, x.d)
		}
		all = append(all, x)
	}
	r := pipe.Open(w.Bytes())
	for _, x := range all {
		if b, _ := Take(r, x.n, x.d); !same(b, x.b) {
			t.Fatalf("P10.2: %v, n %d, d %d, comes back as %v", x.b, x.n, x.d, b)
		}
	}
	if e := r.End(); e != api.OK {
		t.Errorf("P10.2: behind all blocks the reader ends with %d", e)
	}
}

// No two blocks of one count and one depth have the same bits, or such that
// the one's are the beginning of the other's.
func TestNoTwoBlocksHaveTheSameBits(t *testing.T) {
	rnd := rand.New(rand.NewSource(17))
	for range 300 {
		n, d := 1+rnd.Intn(4), 8
		a, b := anyBlock(rnd, n, d), anyBlock(rnd, n, d)
		x, y := putBits(a, n, d), putBits(b, n, d)
		if len(x) <= len(y) && y[:len(x)] == x && !same(a, b) {
			t.Fatalf("P10.2: %v and %v have bits that begin alike: %s, %s", a, b, x, y)
		}
	}
}
