package block

import (
	"slices"
	"strings"
	"testing"

	"sackbut/api"
	"sackbut/pipe"
)

// putBits is a block's bits as a text.
func putBits(b api.Block, n, d int) string {
	var w pipe.Writer
	Put(&w, b, n, d)
	return bitsOf(&w)
}

func TestPut(t *testing.T) {
	ones := strings.Repeat("1", 1024)
	for _, c := range []struct {
		what string
		b    api.Block
		n, d int
		want string
	}{
		{"a Zero", api.Block{}, 3, 8, "00"},
		{"a Zero of many", api.Block{}, 1024, 26, "00"},
		{"a Const", api.Block{Kind: api.Const, Value: 5}, 2, 8, "01" + "00000101"},
		{"a Const of depth 9", api.Block{Kind: api.Const, Value: -1}, 2, 9, "01" + "111111111"},
		{"a Const of depth 26", api.Block{Kind: api.Const, Value: -1 << 25}, 1024, 26, "01" + "1" + strings.Repeat("0", 25)},
		{"a Raw", api.Block{Kind: api.Raw, Data: []int{1, -128, 127}}, 3, 8, "11" + "00000001" + "10000000" + "01111111"},
		{"a Raw of depth 12", api.Block{Kind: api.Raw, Data: []int{-2}}, 1, 12, "11" + "111111111110"},
		{"a Normal", one(0), 1, 8, "10" + "00000" + "00000" + "0" + "00" + "00000" + "1"},
		{"a Normal of many", api.Block{Kind: api.Normal, Rice: []int{0}, Data: make([]int, 1024)}, 1024, 8, "10" + "00000" + "00000" + "0" + "00" + "00000" + ones},
		{"a Shift", normalOf(7, nil, 0, 0, 0), 1, 8, "10" + "00111" + "00000" + "0" + "00" + "00011" + "1000"},
		{"the greatest Shift", normalOf(25, nil, 0, 0, 0), 1, 26, "10" + "11001" + "00000" + "0" + "00" + "00011" + "1000"},
		{"one index", normalOf(0, []int{-64}, 0, 0, 0), 1, 8, "10" + "00000" + "00001" + "1000000" + "0" + "00" + "00011" + "1000"},
		{"two indices", normalOf(0, []int{63, -1}, 0, 0, 0), 1, 8, "10" + "00000" + "00010" + "0111111" + "1111111" + "0" + "00" + "00011" + "1000"},
		{"16 indices", normalOf(0, slices.Repeat([]int{1}, 16), 0, 0, 0), 1, 8, "10" + "00000" + "10000" + strings.Repeat("0000001", 16) + "0" + "00" + "00011" + "1000"},
		{"the least term", normalOf(0, nil, 1, 1, 0), 1, 8, "10" + "00000" + "00000" + "1" + "00000001" + "0001" + "00" + "00011" + "1000"},
		{"the greatest term", normalOf(0, nil, 255, 15, 0), 1, 8, "10" + "00000" + "00000" + "1" + "11111111" + "1111" + "00" + "00011" + "1000"},
		{"two parts", api.Block{Kind: api.Normal, Part: 1, Rice: []int{0, 24}, Data: []int{-1, 1}}, 2, 8, "10" + "00000" + "00000" + "0" + "01" + "00000" + "01" + "11000" + "1" + strings.Repeat("0", 22) + "10"},
		{"all of it", normalOf(2, []int{0, 3}, 4, 5, 6), 1, 16, "10" + "00010" + "00010" + "0000000" + "0000011" + "1" + "00000100" + "0101" + "00" + "00011" + "01" + "100"},
	} {
		if got := putBits(c.b, c.n, c.d); got != c.want {
			t.Errorf("P10.1: %s: bits %s, want %s", c.what, got, c.want)
		}
		if got := Bits(c.b, c.n, c.d); got != len(c.want) {
			t.Errorf("P10.1: %s: %d bits, want %d", c.what, got, len(c.want))
		}
		checkTake(t, c.what, c.want, c.n, c.d)
	}
}

// A block that isn't right leaves a writer as it is, wherever it is.
func TestPutOfWhatIsNotRight(t *testing.T) {
	for ahead := range 9 {
		var w pipe.Writer
		w.Put(1<<ahead-1, ahead)
		for _, b := range []api.Block{
			{Kind: 4},
			{Value: 1},
			{Kind: api.Const, Value: 128},
			{Kind: api.Raw, Data: []int{1, 2, 128}},
			{Kind: api.Raw, Data: []int{1, 2}},
			normalOf(8, nil, 0, 0, 0, 0, 0),
			normalOf(0, []int{64}, 0, 0, 0, 0, 0),
			normalOf(0, nil, 0, 1, 0, 0, 0),
			normalOf(0, nil, 0, 0, 0, 0, 128),
			normalOf(0, nil, 0, 0, 0, 0, 1<<33),
		} {
			if Put(&w, b, 3, 8) || bitsOf(&w) != strings.Repeat("1", ahead) {
				t.Fatalf("P10.1: Put of %v, behind %d bits: it is right, or there are bits: %s", b, ahead, bitsOf(&w))
			}
			if n := Bits(b, 3, 8); n != 0 {
				t.Errorf("P10.1: Bits of %v: %d", b, n)
			}
		}
		for _, c := range [][2]int{{0, 8}, {1025, 8}, {1, 7}, {1, 27}} {
			if Put(&w, api.Block{}, c[0], c[1]) || w.Len() != ahead || Bits(api.Block{}, c[0], c[1]) != 0 {
				t.Fatalf("P10.1: Put of a Zero, n %d, d %d: it is right, or there are bits", c[0], c[1])
			}
		}
	}
}

// P10.3, of each count and of each depth.
func TestARawHas2AndNDBits(t *testing.T) {
	for n := 1; n <= 1024; n++ {
		for d := 8; d <= 26; d++ {
			b := api.Block{Kind: api.Raw, Data: slices.Repeat([]int{-n % 128}, n)}
			if bits := Bits(b, n, d); bits != 2+n*d {
				t.Fatalf("P10.3: a Raw, n %d, d %d: %d bits", n, d, bits)
			}
			if n%97 == 0 || n == 1 || n == 1024 {
				var w pipe.Writer
				if !Put(&w, b, n, d) || w.Len() != 2+n*d {
					t.Fatalf("P10.3: a Raw, n %d, d %d: %d bits are put", n, d, w.Len())
				}
			}
		}
	}
}
