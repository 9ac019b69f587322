package block

import (
	"fmt"
	"math/rand"
	"slices"
	"strings"
	"testing"

	"sackbut/api"
	"sackbut/pipe"
)

// Each kind of block, behind each number of bits, and bits behind it.
func TestTakeOfEachKind(t *testing.T) {
	rnd := rand.New(rand.NewSource(4))
	for range 300 {
		n, d := anyCount(rnd), anyDepth(rnd)
		b := anyBlock(rnd, n, d)
		bits := bitsWords(b, d)
		want, _ := samplesWords(b, n, d)
		for ahead := range 8 {
			r := readerBehind(ahead, bits+"01100")
			left := r.Left() - len(bits)
			got, l := Take(r, n, d)
			if !same(got, b) || !slices.Equal(l, want) || r.Fail() != api.OK || r.Left() != left {
				t.Fatalf("P10.1: Take of %v, n %d, d %d, behind %d bits: %v, %v, fails with %d, %d bits left, want %v, %d left", b, n, d, ahead, got, l, r.Fail(), r.Left(), want, left)
			}
		}
	}
}

func TestTakeOfACountOrADepthOutside(t *testing.T) {
	for _, bits := range []string{"", "0", "00", "01", "1011111", strings.Repeat("0", 400), strings.Repeat("1", 400)} {
		for _, n := range countsOutside() {
			for _, d := range []int{8, 26, 7, 27} {
				checkNothing(t, "a count outside", readerOf(bits), n, d, api.ErrRange)
			}
		}
		for _, d := range depthsOutside() {
			for _, n := range []int{1, 1024, 0, 1025} {
				checkNothing(t, "a depth outside", readerOf(bits), n, d, api.ErrRange)
			}
		}
	}
}

func TestTakeOfAReaderThatFailed(t *testing.T) {
	for e := api.ErrRange; e <= api.ErrKind; e++ {
		for _, bits := range []string{strings.Repeat("0", 100), "01" + strings.Repeat("0", 100), "10" + strings.Repeat("0", 100), strings.Repeat("1", 3000)} {
			for _, c := range [][2]int{{1, 8}, {3, 26}, {1024, 8}, {0, 8}, {1, 7}, {1025, 27}} {
				r := readerOf(bits)
				r.Give(e)
				checkNothing(t, "a reader that failed", r, c[0], c[1], e)
			}
		}
	}
}

// Blocks of each kind, ended ahead of each of their bits.
func TestTakeWhereBitsEndTooEarly(t *testing.T) {
	rnd := rand.New(rand.NewSource(5))
	kinds := map[int]int{}
	for range 60 {
		n, d := 1+rnd.Intn(12), anyDepth(rnd)
		b := anyBlock(rnd, n, d)
		kinds[b.Kind]++
		bits := bitsWords(b, d)
		for end := range len(bits) {
			checkNothing(t, "bits that end: "+bits[:end], readerOf(bits[:end]), n, d, api.ErrEnd)
		}
	}
	if len(kinds) != 4 {
		t.Errorf("P10.1: blocks of %d kinds are ended", len(kinds))
	}
}

// takeFail is bits of which a block can't be taken; they end with a byte's end.
type takeFail struct {
	what string
	bits string
	n, d int
	want api.Errno
}

func takeFails() []takeFail {
	const none, parts = "00000" + "0", "00" + "00000"
	whole := strings.Repeat("0", 24) + "1"
	fails := []takeFail{
		{"nothing", "", 1, 8, api.ErrEnd},
		{"half a Kind", "0", 1, 8, api.ErrEnd},
		{"half a Kind of 1", "1", 1, 8, api.ErrEnd},
		{"a Const alone", "01", 1, 8, api.ErrEnd},
		{"a Const of a bit less", "01" + "0000000", 1, 8, api.ErrEnd},
		{"a Const of a bit less, of 26", "01" + strings.Repeat("1", 25), 1, 26, api.ErrEnd},
		{"a Raw alone", "11", 1, 8, api.ErrEnd},
		{"a Raw of a bit less", "11" + strings.Repeat("1", 23), 3, 8, api.ErrEnd},
		{"a Raw of many, of a bit less", "11" + strings.Repeat("1", 1024*26-1), 1024, 26, api.ErrEnd},
		{"a Normal alone", "10", 1, 8, api.ErrEnd},
		{"a Shift that ends", "10" + "1111", 1, 8, api.ErrEnd},
		{"a Shift alone", "10" + "11111", 1, 8, api.ErrEnd},
		{"a number of indices that ends", "10" + "00000" + "1111", 1, 8, api.ErrEnd},
		{"16 indices, none there", "10" + "00000" + "10000", 1, 8, api.ErrEnd},
		{"the 16th isn't there", "10" + "00000" + "10000" + strings.Repeat("1", 15*7), 1, 8, api.ErrEnd},
		{"the 16th ends", "10" + "00000" + "10000" + strings.Repeat("1", 16*7-1), 1, 8, api.ErrEnd},
		{"no bit of a Lag", "10" + "00000" + "00000", 1, 8, api.ErrEnd},
		{"a Lag that isn't there", "10" + "00000" + "00000" + "1", 1, 8, api.ErrEnd},
		{"a Lag that ends", "10" + "00000" + "00000" + "1" + "0000000", 1, 8, api.ErrEnd},
		{"a Lag of 0 alone", "10" + "00000" + "00000" + "1" + "00000000", 1, 8, api.ErrEnd},
		{"a Lag of 0, a Gain that ends", "10" + "00000" + "00000" + "1" + "00000000" + "000", 1, 8, api.ErrEnd},
		{"a Lag of 0", "10" + "00000" + "00000" + "1" + "00000000" + "0001", 1, 8, api.ErrForm},
		{"a Gain of 0", "10" + "00000" + "00000" + "1" + "00000001" + "0000", 1, 8, api.ErrForm},
		{"both 0", "10" + "00000" + "00000" + "1" + "00000000" + "0000", 1, 8, api.ErrForm},
		{"a Lag of 0, the greatest Gain", "10" + "00000" + "00000" + "1" + "00000000" + "1111", 1, 8, api.ErrForm},
		{"the greatest Lag, a Gain of 0", "10" + "00000" + "00000" + "1" + "11111111" + "0000", 1, 8, api.ErrForm},
		{"both 0, a K above behind", "10" + "00000" + "00000" + "1" + "00000000" + "0000" + "00" + "11001", 1, 8, api.ErrForm},
		{"both 0, a whole block behind", "10" + "00000" + "00000" + "1" + "00000000" + "0000" + parts + "1", 1, 8, api.ErrForm},
		{"a Lag of 0, a K above behind", "10" + "00000" + "00000" + "1" + "00000000" + "0001" + "00" + "11001", 1, 8, api.ErrForm},
		{"a Gain of 0, 25 zeros behind", "10" + "00000" + "00000" + "1" + "00000001" + "0000" + parts + strings.Repeat("0", 25), 1, 8, api.ErrForm},
		{"parts that aren't there", "10" + "00000" + none, 1, 8, api.ErrEnd},
		{"no multiple of 2", "10" + "00000" + none + "01" + "11111", 3, 8, api.ErrForm},
		{"no multiple of 8, nothing behind", "10" + "00000" + none + "11", 12, 8, api.ErrForm},
		{"a K above", "10" + "00000" + none + "00" + "11001", 1, 8, api.ErrRange},
		{"a number that isn't there", "10" + "00000" + none + parts, 1, 8, api.ErrEnd},
		{"25 zeros", "10" + "00000" + none + parts + strings.Repeat("0", 25), 1, 8, api.ErrRange},
		{"a whole 0", "10" + "00000" + none + parts + whole + strings.Repeat("0", 34), 1, 8, api.ErrForm},
		{"a Shift of 8", "10" + "01000" + none + parts + "1", 1, 8, api.ErrForm},
		{"a Shift of 26", "10" + "11010" + none + parts + "1", 1, 26, api.ErrForm},
		{"a Shift of 31", "10" + "11111" + none + parts + "1", 1, 26, api.ErrForm},
		{"a Shift of 31, bits that end", "10" + "11111" + none + parts, 1, 8, api.ErrEnd},
		{"a Shift of 31, a K above", "10" + "11111" + none + "00" + "11111", 1, 8, api.ErrRange},
		{"a Shift of 31, no sample", "10" + "11111" + none + "00" + "11000" + whole + strings.Repeat("1", 34), 1, 8, api.ErrForm},
		{"no sample", "10" + "00000" + none + "00" + "01000" + "1" + "11111111" + "1" + "00000000" + "01" + "00000000", 3, 8, api.ErrValue},
		{"no sample by a shift", "10" + "00111" + none + parts + "001", 1, 8, api.ErrValue},
		{"the least residual", "10" + "00000" + none + parts + whole + strings.Repeat("1", 34), 1, 26, api.ErrValue},
	}
	for count := 17; count < 32; count++ {
		for _, behind := range []string{"", "0", "11" + "11111", strings.Repeat("0", 300), strings.Repeat("1", 300)} {
			fails = append(fails, takeFail{fmt.Sprint(count, " indices"), "10" + "00000" + binary(count, 5) + behind, 1, 8, api.ErrForm})
			fails = append(fails, takeFail{fmt.Sprint(count, " indices, a Shift of 31"), "10" + "11111" + binary(count, 5) + behind, 1, 8, api.ErrForm})
		}
	}
	return fails
}

func TestTakeFails(t *testing.T) {
	for _, c := range takeFails() {
		checkNothing(t, c.what, readerOf(c.bits), c.n, c.d, c.want)
		if e := checkTake(t, c.what, c.bits, c.n, c.d); e != c.want {
			t.Errorf("P10.1: %s: by the words it fails with %d, want %d", c.what, e, c.want)
		}
	}
}

// A reader that failed has nothing left, whatever stands behind the block.
func TestAFailedReaderHasNothingLeft(t *testing.T) {
	for _, c := range takeFails() {
		r := readerOf(c.bits + strings.Repeat("0", 16))
		if Take(r, c.n, c.d); r.Fail() != api.OK && (r.Take(8) != 0 || r.Left() != 0 || r.End() == api.OK) {
			t.Errorf("P10.1: %s: the reader failed, and has bits", c.what)
		}
	}
}

// A term at its ends, in bits.
func TestTakeOfTerms(t *testing.T) {
	for lag := range 256 {
		for gain := range 16 {
			bits := "10" + "00000" + "00000" + "1" + binary(lag, 8) + binary(gain, 4) + "00" + "00000" + "1"
			want := api.OK
			if lag == 0 || gain == 0 {
				want = api.ErrForm
			}
			r := readerOf(bits)
			b, _ := Take(r, 1, 8)
			if r.Fail() != want || want == api.OK && (b.Lag != lag || b.Gain != gain) {
				t.Errorf("P10.1: Take of Lag %d, Gain %d: %v, fails with %d", lag, gain, b, r.Fail())
			}
		}
	}
}

// Any bits, such as begin as a Normal does more often than others.
func TestTakeOfAnyBits(t *testing.T) {
	rnd := rand.New(rand.NewSource(6))
	count := map[api.Errno]int{}
	for range 20000 {
		var text strings.Builder
		for range rnd.Intn(400) {
			text.WriteByte("001"[rnd.Intn(3)])
		}
		bits := text.String()
		if rnd.Intn(4) > 0 {
			bits = "10" + binary(rnd.Intn(10), 5) + binary(rnd.Intn(18), 5) + bits
		}
		count[checkTake(t, "any bits", bits, 1+rnd.Intn(16), anyDepth(rnd))]++
	}
	for _, e := range []api.Errno{api.OK, api.ErrRange, api.ErrForm, api.ErrEnd, api.ErrValue} {
		if count[e] < 100 {
			t.Errorf("P10.1: any bits have the error %d %d times", e, count[e])
		}
	}
}

// The bits of a right block, some of them turned.
func TestTakeOfTurnedBits(t *testing.T) {
	rnd := rand.New(rand.NewSource(7))
	for range 3000 {
		n, d := anyCount(rnd), anyDepth(rnd)
		bits := []byte(bitsWords(anyBlock(rnd, n, d), d) + "0101")
		for range 1 + rnd.Intn(3) {
			bits[rnd.Intn(min(len(bits), 60))] ^= 1
		}
		checkTake(t, "turned bits", string(bits), n, d)
	}
}

// A Normal of a depth's samples is none of a lesser one's.
func TestTakeOfAnotherDepth(t *testing.T) {
	bits := bitsWords(normalOf(0, nil, 0, 0, 300), 16)
	for d := 8; d <= 26; d++ {
		want := api.OK
		if d < 10 {
			want = api.ErrValue
		}
		r := pipe.Open(bytesOf(bits))
		if b, l := Take(r, 1, d); r.Fail() != want || want != api.OK && !isNothing(b, l) {
			t.Errorf("P10.1: Take of 300, d %d: %v, %v, fails with %d", d, b, l, r.Fail())
		}
	}
}

func bytesOf(bits string) []byte {
	b := make([]byte, (len(bits)+7)/8)
	for i, letter := range bits {
		b[i/8] |= byte(letter-'0') << (7 - i%8)
	}
	return b
}
