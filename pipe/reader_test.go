package pipe

import (
	"math"
	"testing"

	"sackbut/api"
)

// bytesOf lays a text of 0 and 1 into bytes, filled up with 0.
func bytesOf(text string) []byte {
	b := make([]byte, (len(text)+7)/8)
	for k, x := range text {
		b[k/8] |= byte(x-'0') << (7 - k%8)
	}
	return b
}

// takeCase is a call of a reader upon bits: what it answers, how many bits
// it takes, and what the reader failed with.
type takeCase struct {
	name string
	bits string
	call func(r *Reader) int
	want int
	took int
	fail api.Errno
}

func checkTakes(t *testing.T, cases []takeCase) {
	t.Helper()
	for _, c := range cases {
		b := bytesOf(c.bits)
		r := Open(b)
		if got := c.call(r); got != c.want {
			t.Errorf("P1.1: %s: %d, want %d", c.name, got, c.want)
		}
		if r.Fail() != c.fail {
			t.Errorf("P1.1: %s: fails with %d, want %d", c.name, r.Fail(), c.fail)
		}
		if c.fail != api.OK {
			checkFailed(t, c.name, r, c.fail)
		} else if left := 8*len(b) - c.took; r.Left() != left {
			t.Errorf("P1.1: %s: %d bits left, want %d", c.name, r.Left(), left)
		}
	}
}

// checkFailed makes every call of a reader that failed: each is nothing.
func checkFailed(t *testing.T, name string, r *Reader, want api.Errno) {
	t.Helper()
	for range 2 {
		r.Align()
		zero := r.Take(0) == 0 && r.Take(1) == 0 && r.Take(8) == 0 && r.Take(-1) == 0 && r.Take(49) == 0
		zero = zero && r.Signed(1) == 0 && r.Signed(8) == 0 && r.Signed(0) == 0
		zero = zero && r.Zeros(-1) == 0 && r.Zeros(0) == 0 && r.Zeros(9) == 0 && r.Left() == 0
		if !zero {
			t.Errorf("P1.1: %s: a reader that failed answers something", name)
		}
		r.Give(api.OK)
		r.Give(api.ErrKind)
		if r.Fail() != want || r.End() != want {
			t.Errorf("P1.1: %s: Fail %d, End %d, want %d", name, r.Fail(), r.End(), want)
		}
	}
}

func takeOf(n int) func(*Reader) int {
	return func(r *Reader) int { return int(r.Take(n)) }
}

func signOf(n int) func(*Reader) int {
	return func(r *Reader) int { return r.Signed(n) }
}

func zeroOf(most int) func(*Reader) int {
	return func(r *Reader) int { return r.Zeros(most) }
}

const (
	ones48 = "111111111111111111111111111111111111111111111111"
	none48 = "000000000000000000000000000000000000000000000000"
)

func TestTake(t *testing.T) {
	checkTakes(t, []takeCase{
		{"none of nothing", "", takeOf(0), 0, 0, api.OK},
		{"one of nothing", "", takeOf(1), 0, 0, api.ErrEnd},
		{"none", "1", takeOf(0), 0, 0, api.OK},
		{"one", "1", takeOf(1), 1, 1, api.OK},
		{"three", "1011", takeOf(3), 5, 3, api.OK},
		{"a byte", "11001010", takeOf(8), 0xca, 8, api.OK},
		{"across bytes", "101010111100", takeOf(12), 0xabc, 12, api.OK},
		{"one too many", "11111111", takeOf(9), 0, 0, api.ErrEnd},
		{"47 of 40", ones48[:40], takeOf(47), 0, 0, api.ErrEnd},
		{"48", ones48, takeOf(48), 1<<48 - 1, 48, api.OK},
		{"48, the highest bit", "1" + none48[1:], takeOf(48), 1 << 47, 48, api.OK},
		{"49", ones48 + "11", takeOf(49), 0, 0, api.ErrRange},
		{"49 of nothing", "", takeOf(49), 0, 0, api.ErrRange},
		{"below 0", ones48, takeOf(-1), 0, 0, api.ErrRange},
		{"the greatest n", ones48, takeOf(math.MaxInt), 0, 0, api.ErrRange},
		{"the least n", ones48, takeOf(math.MinInt), 0, 0, api.ErrRange},
	})
}

func TestReaderSigned(t *testing.T) {
	checkTakes(t, []takeCase{
		{"1 bit, 1", "1", signOf(1), -1, 1, api.OK},
		{"1 bit, 0", "0", signOf(1), 0, 1, api.OK},
		{"3 bits, the least", "100", signOf(3), -4, 3, api.OK},
		{"3 bits, the greatest", "011", signOf(3), 3, 3, api.OK},
		{"3 bits, -1", "1110", signOf(3), -1, 3, api.OK},
		{"8 bits", "10011100", signOf(8), -100, 8, api.OK},
		{"48 bits, the least", "1" + none48[1:], signOf(48), -1 << 47, 48, api.OK},
		{"48 bits, the greatest", "0" + ones48[1:], signOf(48), 1<<47 - 1, 48, api.OK},
		{"48 bits, -1", ones48, signOf(48), -1, 48, api.OK},
		{"none", "1", signOf(0), 0, 0, api.ErrRange},
		{"none of nothing", "", signOf(0), 0, 0, api.ErrRange},
		{"below 0", "1", signOf(-1), 0, 0, api.ErrRange},
		{"49", ones48 + "11", signOf(49), 0, 0, api.ErrRange},
		{"49 of nothing", "", signOf(49), 0, 0, api.ErrRange},
		{"the greatest n", ones48, signOf(math.MaxInt), 0, 0, api.ErrRange},
		{"the least n", ones48, signOf(math.MinInt), 0, 0, api.ErrRange},
		{"one too many", "11111111", signOf(9), 0, 0, api.ErrEnd},
		{"one of nothing", "", signOf(1), 0, 0, api.ErrEnd},
	})
}

func TestReaderZeros(t *testing.T) {
	checkTakes(t, []takeCase{
		{"a 1 at once", "1", zeroOf(9), 0, 1, api.OK},
		{"a 1 at once, most 0", "1", zeroOf(0), 0, 1, api.OK},
		{"a 1 at once, most below 0", "1", zeroOf(-1), 0, 1, api.OK},
		{"a 1 at once, the least most", "1", zeroOf(math.MinInt), 0, 1, api.OK},
		{"a 0, most 0", "01", zeroOf(0), 0, 0, api.ErrRange},
		{"a 0, most below 0", "01", zeroOf(-1), 0, 0, api.ErrRange},
		{"a 0, the least most", "01", zeroOf(math.MinInt), 0, 0, api.ErrRange},
		{"a 0, most 1", "011", zeroOf(1), 1, 2, api.OK},
		{"seven, most below", "00000001", zeroOf(6), 0, 0, api.ErrRange},
		{"seven, most at", "00000001", zeroOf(7), 7, 8, api.OK},
		{"seven, most above", "00000001", zeroOf(8), 7, 8, api.OK},
		{"across bytes", "0000000000001", zeroOf(12), 12, 13, api.OK},
		{"48 and more, the greatest most", none48 + none48 + "1", zeroOf(math.MaxInt), 96, 97, api.OK},
		{"nothing", "", zeroOf(9), 0, 0, api.ErrEnd},
		{"nothing, most 0", "", zeroOf(0), 0, 0, api.ErrEnd},
		{"nothing, most below 0", "", zeroOf(-1), 0, 0, api.ErrEnd},
		{"eight, then the end, most below", "00000000", zeroOf(7), 0, 0, api.ErrRange},
		{"eight, then the end, most at", "00000000", zeroOf(8), 0, 0, api.ErrEnd},
		{"eight, then the end, most above", "00000000", zeroOf(9), 0, 0, api.ErrEnd},
	})
}

// behind makes a call where n bits were taken ahead of it.
func behind(n int, call func(r *Reader)) func(*Reader) int {
	return func(r *Reader) int {
		r.Take(n)
		call(r)
		return 0
	}
}

func TestReaderAlign(t *testing.T) {
	align := (*Reader).Align
	checkTakes(t, []takeCase{
		{"nothing", "", behind(0, align), 0, 0, api.OK},
		{"at the beginning", "11111111", behind(0, align), 0, 0, api.OK},
		{"at a whole byte", "1111111111111111", behind(8, align), 0, 8, api.OK},
		{"at the end", "11111111", behind(8, align), 0, 8, api.OK},
		{"seven bits 0", "1000000011111111", behind(1, align), 0, 8, api.OK},
		{"one bit 0", "1111111011111111", behind(7, align), 0, 8, api.OK},
		{"in the second byte", "1111111110000000", behind(9, align), 0, 16, api.OK},
		{"the first is 1", "1100000000000000", behind(1, align), 0, 0, api.ErrPad},
		{"one in the midst is 1", "1001000000000000", behind(1, align), 0, 0, api.ErrPad},
		{"the last is 1", "1000000100000000", behind(1, align), 0, 0, api.ErrPad},
		{"the only one is 1", "11111111", behind(7, align), 0, 0, api.ErrPad},
	})
}

func TestLeft(t *testing.T) {
	r := Open([]byte("abc"))
	for left := 24; left >= 0; left-- {
		if r.Left() != left {
			t.Errorf("P1.1: %d bits left, want %d", r.Left(), left)
		}
		if left > 0 {
			r.Take(1)
		}
	}
	if r.Fail() != api.OK {
		t.Errorf("P1.1: taken to the end: %d", r.Fail())
	}
}

func TestGive(t *testing.T) {
	for _, e := range []api.Errno{api.ErrRange, api.ErrTree, api.ErrKind, 99, -1} {
		r := Open([]byte("ab"))
		r.Take(3)
		r.Give(api.OK)
		if r.Fail() != api.OK || r.Left() != 13 || r.Take(5) != 1 {
			t.Error("P1.1: Give of OK does something")
		}
		r.Give(e)
		checkFailed(t, "Give", r, e)
	}
}

func TestFirstErrorStays(t *testing.T) {
	r := Open([]byte("\xff"))
	r.Take(1)
	r.Align()
	r.Take(49)
	r.Take(48)
	r.Give(api.ErrSum)
	checkFailed(t, "Align, then others", r, api.ErrPad)
}

func TestEnd(t *testing.T) {
	for _, c := range []struct {
		bits string
		took int
		want api.Errno
	}{
		{"", 0, api.OK},
		{"11111111", 8, api.OK},
		{"00000000", 0, api.ErrMore},
		{"11111111", 0, api.ErrMore},
		{"1111111100000000", 7, api.ErrMore},
		{"1111111100000000", 8, api.ErrMore},
		{"1111111110000000", 8, api.ErrMore},
		{"1111111110000000", 9, api.OK},
		{"1000000", 1, api.OK},
		{"11111110", 7, api.OK},
		{"11111111", 7, api.ErrPad},
		{"11000000", 1, api.ErrPad},
		{"10001000", 1, api.ErrPad},
		{"10000001", 1, api.ErrPad},
	} {
		r := Open(bytesOf(c.bits))
		r.Take(c.took)
		left := r.Left()
		for range 2 {
			if e := r.End(); e != c.want {
				t.Errorf("P1.1: End of %q behind %d: %d, want %d", c.bits, c.took, e, c.want)
			}
		}
		if r.Fail() != api.OK || r.Left() != left {
			t.Errorf("R4: End of %q behind %d: fails with %d, %d bits left", c.bits, c.took, r.Fail(), r.Left())
		}
	}
}

func TestEndOfFailed(t *testing.T) {
	for _, text := range []string{"", "\x00", "\xff", "\x00\x00", "ab"} {
		r := Open([]byte(text))
		r.Take(-1)
		if r.End() != api.ErrRange {
			t.Errorf("P1.1: End of a reader that failed, of %q: %d", text, r.End())
		}
	}
}
