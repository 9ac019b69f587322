package pipe

import (
	"math"
	"strconv"
	"strings"
	"testing"
)

// bitsOf tells what a writer holds as a text of 0 and 1, and checks that its
// last byte is filled up with 0.
func bitsOf(t *testing.T, w *Writer) string {
	t.Helper()
	text := textOf(w.Bytes())
	n := w.Len()
	if n < 0 || len(text) != (n+7)/8*8 {
		t.Fatalf("P1.1: %d bits are %d bytes", n, len(text)/8)
	}
	if strings.Contains(text[n:], "1") {
		t.Fatalf("P1.1: behind the last bit: %s", text[n:])
	}
	return text[:n]
}

func textOf(b []byte) string {
	var text strings.Builder
	for _, x := range b {
		s := strconv.FormatUint(uint64(x), 2)
		text.WriteString(strings.Repeat("0", 8-len(s)) + s)
	}
	return text.String()
}

func TestIntHas64Bits(t *testing.T) {
	if strconv.IntSize != 64 {
		t.Errorf("R1: int has %d bits", strconv.IntSize)
	}
}

func TestZeroWriter(t *testing.T) {
	var w Writer
	if w.Len() != 0 || len(w.Bytes()) != 0 {
		t.Errorf("P1.1: a zero Writer has %d bits", w.Len())
	}
	w.Align()
	if w.Len() != 0 || len(w.Bytes()) != 0 {
		t.Errorf("P1.1: Align without bits puts %d", w.Len())
	}
}

func TestWriterExample(t *testing.T) {
	var w Writer
	if !w.Put(5, 3) || !w.Signed(-1, 2) || !w.Zeros(2) {
		t.Error("P1.1: the example can't be put")
	}
	if b := w.Bytes(); len(b) != 1 || b[0] != 0xb9 {
		t.Errorf("P1.1: the example: %x", b)
	}
}

// putCase is a call of a writer, and the bits that it puts; "no" if it puts
// none because it can't.
type putCase struct {
	name string
	call func(w *Writer) bool
	want string
}

func putOf(v uint64, n int, want string) putCase {
	name := "Put " + strconv.FormatUint(v, 10) + " of " + strconv.Itoa(n)
	return putCase{name, func(w *Writer) bool { return w.Put(v, n) }, want}
}

func signedOf(v, n int, want string) putCase {
	name := "Signed " + strconv.Itoa(v) + " of " + strconv.Itoa(n)
	return putCase{name, func(w *Writer) bool { return w.Signed(v, n) }, want}
}

func zerosOf(n int, want string) putCase {
	return putCase{"Zeros " + strconv.Itoa(n), func(w *Writer) bool { return w.Zeros(n) }, want}
}

// checkPuts makes each call behind no bits, behind a few, and at a whole byte.
func checkPuts(t *testing.T, cases []putCase) {
	t.Helper()
	for _, c := range cases {
		for _, ahead := range []string{"", "101", "1100101", "11111111"} {
			var w Writer
			for _, x := range ahead {
				w.Put(uint64(x-'0'), 1)
			}
			ok, want := c.call(&w), ahead
			if c.want != "no" {
				want += c.want
			}
			if ok != (c.want != "no") {
				t.Errorf("P1.1: %s: %t", c.name, ok)
			}
			if got := bitsOf(t, &w); got != want {
				t.Errorf("P1.1: %s behind %q: %s, want %s", c.name, ahead, got, want)
			}
		}
	}
}

func TestPut(t *testing.T) {
	checkPuts(t, []putCase{
		putOf(0, 0, ""),
		putOf(1, 0, "no"),
		putOf(math.MaxUint64, 0, "no"),
		putOf(0, 1, "0"),
		putOf(1, 1, "1"),
		putOf(2, 1, "no"),
		putOf(5, 3, "101"),
		putOf(7, 3, "111"),
		putOf(8, 3, "no"),
		putOf(9, 3, "no"),
		putOf(5, 8, "00000101"),
		putOf(0xabc, 12, "101010111100"),
		putOf(1<<47-1, 47, strings.Repeat("1", 47)),
		putOf(1<<47, 47, "no"),
		putOf(0, 48, strings.Repeat("0", 48)),
		putOf(1<<47, 48, "1"+strings.Repeat("0", 47)),
		putOf(1<<48-1, 48, strings.Repeat("1", 48)),
		putOf(1<<48, 48, "no"),
		putOf(math.MaxUint64, 48, "no"),
		putOf(0, 49, "no"),
		putOf(0, 64, "no"),
		putOf(0, -1, "no"),
		putOf(0, math.MaxInt, "no"),
		putOf(0, math.MinInt, "no"),
	})
}

func TestPutOfEachLength(t *testing.T) {
	for n := 0; n <= 48; n++ {
		checkPuts(t, []putCase{
			putOf(1<<n-1, n, strings.Repeat("1", n)),
			putOf(1<<n, n, "no"),
			putOf(1<<63, n, "no"),
		})
	}
}

func TestWriterSigned(t *testing.T) {
	checkPuts(t, []putCase{
		signedOf(0, 0, "no"),
		signedOf(-1, 0, "no"),
		signedOf(0, -1, "no"),
		signedOf(0, 49, "no"),
		signedOf(0, 64, "no"),
		signedOf(0, math.MaxInt, "no"),
		signedOf(0, math.MinInt, "no"),
		signedOf(-1, 1, "1"),
		signedOf(0, 1, "0"),
		signedOf(1, 1, "no"),
		signedOf(-2, 1, "no"),
		signedOf(-4, 3, "100"),
		signedOf(-1, 3, "111"),
		signedOf(3, 3, "011"),
		signedOf(4, 3, "no"),
		signedOf(-5, 3, "no"),
		signedOf(-100, 8, "10011100"),
		signedOf(math.MaxInt, 48, "no"),
		signedOf(math.MinInt, 48, "no"),
		signedOf(math.MinInt, 1, "no"),
	})
}

func TestWriterSignedOfEachLength(t *testing.T) {
	for n := 1; n <= 48; n++ {
		half := 1 << (n - 1)
		checkPuts(t, []putCase{
			signedOf(-half, n, "1"+strings.Repeat("0", n-1)),
			signedOf(half-1, n, "0"+strings.Repeat("1", n-1)),
			signedOf(-1, n, strings.Repeat("1", n)),
			signedOf(0, n, strings.Repeat("0", n)),
			signedOf(-half-1, n, "no"),
			signedOf(half, n, "no"),
		})
	}
}

func TestWriterZeros(t *testing.T) {
	checkPuts(t, []putCase{
		zerosOf(0, "1"),
		zerosOf(1, "01"),
		zerosOf(7, "00000001"),
		zerosOf(63, strings.Repeat("0", 63)+"1"),
		zerosOf(64, strings.Repeat("0", 64)+"1"),
		zerosOf(999, strings.Repeat("0", 999)+"1"),
		zerosOf(1000, strings.Repeat("0", 1000)+"1"),
		zerosOf(1001, "no"),
		zerosOf(-1, "no"),
		zerosOf(math.MaxInt, "no"),
		zerosOf(math.MinInt, "no"),
	})
}

func TestWriterAlign(t *testing.T) {
	for n := 0; n <= 24; n++ {
		var w Writer
		w.Put(1<<n-1, n)
		w.Align()
		whole := (n + 7) / 8 * 8
		want := strings.Repeat("1", n) + strings.Repeat("0", whole-n)
		if got := bitsOf(t, &w); got != want {
			t.Errorf("P1.1: Align behind %d bits: %s, want %s", n, got, want)
		}
		w.Align()
		if w.Len() != whole {
			t.Errorf("P1.1: Align at a whole byte: %d bits, want %d", w.Len(), whole)
		}
	}
}
