package pack

import (
	"encoding/hex"
	"math/rand"
	"slices"
	"testing"

	"sackbut/api"
)

func TestBytesThatAreKnown(t *testing.T) {
	for _, c := range []struct {
		f    Form
		l    [][]int
		want string
	}{
		{Form{16, false}, [][]int{{1, -2}}, "0100feff"},
		{Form{16, false}, [][]int{{1}, {-2}}, "0100feff"},
		{Form{8, false}, [][]int{{-128, 127, -1, 0}}, "807fff00"},
		{Form{8, true}, [][]int{{-128, 127, -1, 0}}, "807fff00"},
		{Form{16, false}, [][]int{{-32768, 32767, -1, 0}}, "0080ff7fffff0000"},
		{Form{16, true}, [][]int{{-32768, 32767, -1, 0}}, "80007fffffff0000"},
		{Form{24, false}, [][]int{{-8388608, 8388607, -1, 0}}, "000080ffff7fffffff000000"},
		{Form{24, true}, [][]int{{-8388608, 8388607, -1, 0}}, "8000007fffffffffff000000"},
		{Form{16, false}, [][]int{{0x1234, -0x1234}}, "3412cced"},
		{Form{16, true}, [][]int{{0x1234, -0x1234}}, "1234edcc"},
		{Form{24, false}, [][]int{{0x123456, -0x123456}}, "563412aacbed"},
		{Form{24, true}, [][]int{{0x123456, -0x123456}}, "123456edcbaa"},
		{Form{8, false}, [][]int{{1, 2, 3}, {4, 5, 6}}, "010402050306"},
		{Form{8, true}, [][]int{{1}, {2}, {3}, {4}, {5}, {6}, {7}, {8}}, "0102030405060708"},
		{Form{16, true}, [][]int{{1, 2}, {3, 4}, {5, 6}}, "000100030005000200040006"},
		{Form{24, false}, [][]int{{1, 2}, {3, 4}}, "010000030000020000040000"},
	} {
		b, e := Pack(c.f, c.l)
		if got := hex.EncodeToString(b); got != c.want || e != api.OK {
			t.Errorf("P5.1: Pack(%v, %v): %s, %d, want %s", c.f, c.l, got, e, c.want)
		}
		if l, e := Unpack(c.f, len(c.l), b); e != api.OK || !same(l, c.l) {
			t.Errorf("P5.2: Unpack(%v, %d, %x): %v, %d, want %v", c.f, len(c.l), b, l, e, c.l)
		}
		if got := packWords(c.f, c.l); got != c.want {
			t.Errorf("the tests' own words: %s, want %s", got, c.want)
		}
	}
}

func TestChannelsOfNoSamples(t *testing.T) {
	for _, f := range forms() {
		for channels := 1; channels <= api.MaxChannels; channels++ {
			for _, list := range [][]int{nil, {}, []int{1000000000}[:0]} {
				if b, e := Pack(f, many(channels, list)); e != api.OK || len(b) != 0 {
					t.Errorf("P5.1: Pack(%v) of %d channels of no samples: %x, %d", f, channels, b, e)
				}
			}
		}
	}
}

func TestPackByTheWords(t *testing.T) {
	rnd := rand.New(rand.NewSource(2))
	for _, f := range forms() {
		for channels := 1; channels <= api.MaxChannels; channels++ {
			for samples := range 20 {
				checkPack(t, f, anyChannels(rnd, f, channels, samples))
			}
			checkPack(t, f, anyChannels(rnd, f, channels, 200+rnd.Intn(1000)))
		}
	}
}

// Each sample of eight and of sixteen bits, as one channel and as several.
func TestEachShortSample(t *testing.T) {
	for _, f := range forms() {
		if f.Bits == 24 {
			continue
		}
		var all []int
		least, greatest := ends(f.Bits)
		for n := least; n <= greatest; n++ {
			all = append(all, n)
		}
		checkPack(t, f, [][]int{all})
		checkPack(t, f, slices.Collect(slices.Chunk(all, len(all)/4)))
	}
}

// Each sample of 24 bits comes back, and has its own bytes.
func TestEachLongSample(t *testing.T) {
	least, greatest := ends(24)
	for n := least; n <= greatest; n += 8 << 20 {
		l := make([][]int, 8)
		for c := range l {
			l[c] = make([]int, 1<<20)
			for i := range l[c] {
				l[c][i] = n + c<<20 + i
			}
		}
		for _, f := range []Form{{24, false}, {24, true}} {
			b, e := Pack(f, l)
			if e != api.OK || len(b) != 24<<20 {
				t.Fatalf("P5.1: Pack(%v): %d bytes, %d", f, len(b), e)
			}
			for i := range 8 << 20 {
				if v := l[i%8][i/8]; !isLong(f, b[3*i:3*i+3], v) {
					t.Fatalf("P5.1: Pack(%v): %d is %x", f, v, b[3*i:3*i+3])
				}
			}
			if m, e := Unpack(f, 8, b); e != api.OK || !same(m, l) {
				t.Fatalf("P5.2: the samples from %d on don't come back as %v: %d", n, f, e)
			}
		}
	}
}

// isLong tells whether three bytes are a sample.
func isLong(f Form, b []byte, n int) bool {
	high, middle, low := b[2], b[1], b[0]
	if f.Big {
		high, low = b[0], b[2]
	}
	v := int(high)*65536 + int(middle)*256 + int(low)
	return v == n && n >= 0 || v == n+1<<24 && n < 0
}
