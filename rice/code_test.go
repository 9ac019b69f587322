package rice

import (
	"math"
	"strconv"
	"strings"
	"testing"

	"sackbut/pipe"
)

const (
	least    = -1 << 33
	greatest = 1<<33 - 1
)

// textOf tells the bits of bytes as a text of 0 and 1.
func textOf(b []byte) string {
	var text strings.Builder
	for _, x := range b {
		text.WriteString(binary(int(x), 8))
	}
	return text.String()
}

// bytesOf lays a text of 0 and 1 into bytes, filled up with 0.
func bytesOf(text string) []byte {
	b := make([]byte, (len(text)+7)/8)
	for k, x := range text {
		b[k/8] |= byte(x-'0') << (7 - k%8)
	}
	return b
}

// binary writes a number with so many bits.
func binary(v, n int) string {
	if n == 0 {
		return ""
	}
	s := strconv.FormatInt(int64(v), 2)
	return strings.Repeat("0", n-len(s)) + s
}

func zeros(n int) string { return strings.Repeat("0", n) }

// wordsOf is a number's code by the chapter's words, as a text of bits.
func wordsOf(n, k int) string {
	z := 2 * n
	if n < 0 {
		z = -2*n - 1
	}
	power := int(math.Pow(2, float64(k)))
	if z/power < 24 {
		return zeros(z/power) + "1" + binary(z%power, k)
	}
	return zeros(24) + "1" + binary(z, 34)
}

func TestFold(t *testing.T) {
	for _, c := range []struct{ n, z int }{
		{0, 0}, {-1, 1}, {1, 2}, {-2, 3}, {2, 4}, {-3, 5}, {5, 10}, {-100, 199}, {100, 200},
		{1 << 32, 1 << 33}, {-1 << 32, 1<<33 - 1},
		{greatest - 1, 1<<34 - 4}, {greatest, 1<<34 - 2}, {least + 1, 1<<34 - 3}, {least, 1<<34 - 1},
	} {
		if got := Fold(c.n); got != c.z {
			t.Errorf("P2.1: Fold(%d): %d, want %d", c.n, got, c.z)
		}
		if got := Unfold(c.z); got != c.n {
			t.Errorf("P2.1: Unfold(%d): %d, want %d", c.z, got, c.n)
		}
	}
}

func TestFoldAndBack(t *testing.T) {
	for z := range 100000 {
		for _, x := range []int{z, 1<<34 - 1 - z, z * 171797} {
			n := Unfold(x)
			if n < least || n > greatest || Fold(n) != x || (n < 0) != (x%2 == 1) {
				t.Fatalf("P2.1: %d unfolded is %d, folded again %d", x, n, Fold(n))
			}
		}
	}
}

// numbers are those at which something changes, and their neighbours.
func numbers() []int {
	l := []int{least, least + 1, greatest - 1, greatest}
	for n := -60; n <= 60; n++ {
		l = append(l, n)
	}
	for shift := 3; shift < 33; shift++ {
		for _, x := range []int{1 << shift, 3 << (shift - 2), 12 << (shift - 3)} {
			for d := -2; d <= 2; d++ {
				l = append(l, x+d, -x+d)
			}
		}
	}
	for k := range 25 {
		for q := 22; q <= 26; q++ {
			for d := -2; d <= 2; d++ {
				l = append(l, q<<k/2+d, -(q<<k)/2+d)
			}
		}
	}
	return l
}

// checkPut puts a number behind some bits: it has these bits, and no others.
func checkPut(t *testing.T, n, k int, want string) {
	t.Helper()
	for _, ahead := range []string{"", "101", "1111111"} {
		var w pipe.Writer
		for _, x := range ahead {
			w.Put(uint64(x-'0'), 1)
		}
		if !Put(&w, n, k) {
			t.Errorf("P2.1: Put %d under %d: no", n, k)
		}
		if got := textOf(w.Bytes()); w.Len() != len(ahead+want) || got[:w.Len()] != ahead+want {
			t.Errorf("P2.1: Put %d under %d behind %q: %s, want %s", n, k, ahead, got, ahead+want)
		}
	}
	if got := Cost(n, k); got != len(want) {
		t.Errorf("P2.1: Cost(%d, %d): %d, want %d", n, k, got, len(want))
	}
}

func TestCodes(t *testing.T) {
	whole := zeros(24) + "1"
	for _, c := range []struct {
		n, k int
		want string
	}{
		{-1, 0, "01"}, {5, 2, "00110"}, // the chapter's examples
		{0, 0, "1"}, {1, 0, "001"}, {-2, 0, "0001"},
		{0, 1, "10"}, {-1, 1, "11"}, {1, 1, "010"},
		{0, 24, "1" + zeros(24)}, {-1, 24, "1" + zeros(23) + "1"},
		{11, 0, zeros(22) + "1"},                // quotient 22
		{-12, 0, zeros(23) + "1"},               // 23
		{12, 0, whole + zeros(29) + "11000"},    // 24
		{-13, 0, whole + zeros(29) + "11001"},   // 25
		{-96, 3, zeros(23) + "1" + "111"},       // 23, and the greatest rest
		{96, 3, whole + zeros(26) + "11000000"}, // 24, and the least one
		{-24 << 23, 24, zeros(23) + "1" + strings.Repeat("1", 24)},
		{24 << 23, 24, whole + "000001100" + zeros(25)},
		{greatest, 0, whole + strings.Repeat("1", 33) + "0"},
		{greatest, 24, whole + strings.Repeat("1", 33) + "0"},
		{least, 0, whole + strings.Repeat("1", 34)},
		{least, 24, whole + strings.Repeat("1", 34)},
	} {
		checkPut(t, c.n, c.k, c.want)
	}
}

func TestCodesByTheWords(t *testing.T) {
	for _, n := range numbers() {
		for k := range 25 {
			checkPut(t, n, k, wordsOf(n, k))
		}
	}
}

func TestWithoutACode(t *testing.T) {
	far := []int{math.MinInt, math.MinInt + 1, -1 << 62, -1 << 34, least - 2, least - 1, greatest + 1, greatest + 2, 1 << 34, 1 << 62, math.MaxInt}
	for _, n := range far {
		for k := -1; k <= 25; k++ {
			checkNoCode(t, n, k)
		}
	}
	for _, k := range []int{math.MinInt, -64, -2, -1, 25, 26, 48, 63, 64, 1 << 32, math.MaxInt} {
		for _, n := range append([]int{least, -100, -1, 0, 1, 12, greatest}, far...) {
			checkNoCode(t, n, k)
		}
	}
}

func checkNoCode(t *testing.T, n, k int) {
	t.Helper()
	var w pipe.Writer
	w.Put(5, 3)
	if Put(&w, n, k) || w.Len() != 3 || w.Bytes()[0] != 5<<5 {
		t.Errorf("P2.1: Put %d under %d: %d bits", n, k, w.Len())
	}
	if got := Cost(n, k); got != 0 {
		t.Errorf("P2.1: Cost(%d, %d): %d, want 0", n, k, got)
	}
}

func TestFarNumbersDoNotPanic(t *testing.T) {
	for _, n := range []int{math.MinInt, math.MinInt + 1, -1 << 62, 1 << 62, math.MaxInt - 1, math.MaxInt} {
		Fold(n)
		Unfold(n)
		Best([]int{n, 0, n})
	}
}
