package rank

import (
	"math/rand"
	"slices"
	"strings"
	"testing"

	"sackbut/api"
	"sackbut/pipe"
)

// checkTake holds Take of bits against the words; the bits end with a byte.
func checkTake(t *testing.T, what, bits string, n int) api.Errno {
	t.Helper()
	want, behind, wantErr := takeWords(bits, n)
	r := readerOf(bits)
	if got := Take(r, n); !slices.Equal(got, want) || r.Fail() != wantErr {
		t.Fatalf("P12.1: %s: Take of %d of %s: %v, fails with %d, want %v, %d", what, n, bits, got, r.Fail(), want, wantErr)
	}
	if wantErr != api.OK {
		checkNothing(t, what+", again", r, n, wantErr)
	} else if r.Left() != len(behind) {
		t.Fatalf("P12.1: %s: Take of %d of %s leaves %d bits, want %d", what, n, bits, r.Left(), len(behind))
	}
	return wantErr
}

// checkNothing: there is no order, and the reader fails so.
func checkNothing(t *testing.T, what string, r *pipe.Reader, n int, want api.Errno) {
	t.Helper()
	if l := Take(r, n); len(l) != 0 || r.Fail() != want {
		t.Fatalf("P12.1: %s: Take of %d: %v, fails with %d, want nothing, %d", what, n, l, r.Fail(), want)
	}
}

func TestTake(t *testing.T) {
	for _, c := range []struct {
		what string
		bits string
		n    int
		want []int
		err  api.Errno
	}{
		{"one, of no bits", "", 1, []int{0}, api.OK},
		{"one, bits behind", "1111", 1, []int{0}, api.OK},
		{"two", "0", 2, []int{0, 1}, api.OK},
		{"two, the other way", "1", 2, []int{1, 0}, api.OK},
		{"the chapter's", "10" + "0", 3, []int{2, 0, 1}, api.OK},
		{"the chapter's, bits behind", "10" + "0" + "11111", 3, []int{2, 0, 1}, api.OK},
		{"eight, falling", "111" + "110" + "101" + "100" + "11" + "10" + "1", 8, []int{7, 6, 5, 4, 3, 2, 1, 0}, api.OK},
		{"eight, rising", "000" + "000" + "000" + "000" + "00" + "00" + "0", 8, []int{0, 1, 2, 3, 4, 5, 6, 7}, api.OK},
		{"eight", "100" + "110" + "000" + "010" + "11" + "00" + "1", 8, []int{4, 7, 0, 3, 6, 1, 5, 2}, api.OK},

		{"none", "0000", 0, nil, api.ErrRange},
		{"fewer than none", "0000", -1, nil, api.ErrRange},
		{"nine", strings.Repeat("0", 40), 9, nil, api.ErrRange},
		{"nine, of no bits", "", 9, nil, api.ErrRange},
		{"none, of no bits", "", 0, nil, api.ErrRange},
		{"nine, of bits 1", strings.Repeat("1", 40), 9, nil, api.ErrRange},

		{"two, of no bits", "", 2, nil, api.ErrEnd},
		{"three, a bit less", "10", 3, nil, api.ErrEnd},
		{"three, a mark too great, a bit less", "11", 3, nil, api.ErrEnd},
		{"three, half a mark", "1", 3, nil, api.ErrEnd},
		{"eight, a bit less", "111" + "110" + "101" + "100" + "11" + "10", 8, nil, api.ErrEnd},
		{"eight, a mark too great, a bit less", "111" + "111" + "000" + "000" + "00" + "00", 8, nil, api.ErrEnd},
		{"seven, a mark too great, a byte in all", "111" + "00000", 7, nil, api.ErrEnd},

		{"three, a mark too great", "11" + "0", 3, nil, api.ErrOrder},
		{"three, a mark too great, a bit 1 behind", "11" + "1" + "1", 3, nil, api.ErrOrder},
		{"four, the second mark too great", "00" + "11" + "0", 4, nil, api.ErrOrder},
		{"five, the first mark one too great", "101" + "00" + "00" + "0", 5, nil, api.ErrOrder},
		{"six, the first mark one too great", "110" + "000" + "00" + "00" + "0", 6, nil, api.ErrOrder},
		{"seven, the first mark one too great", "111" + "000" + "000" + "00" + "00" + "0", 7, nil, api.ErrOrder},
		{"eight, the second mark one too great", "000" + "111" + "000" + "000" + "00" + "00" + "0", 8, nil, api.ErrOrder},
		{"eight, the third mark one too great", "000" + "000" + "110" + "000" + "00" + "00" + "0", 8, nil, api.ErrOrder},
		{"eight, the fourth mark one too great", "000" + "000" + "000" + "101" + "00" + "00" + "0", 8, nil, api.ErrOrder},
		{"eight, the last mark but two too great", "000" + "000" + "000" + "000" + "00" + "11" + "0", 8, nil, api.ErrOrder},
	} {
		r := readerOf(c.bits)
		if l := Take(r, c.n); !slices.Equal(l, c.want) || r.Fail() != c.err {
			t.Errorf("P12.1: %s: Take of %d of %s: %v, fails with %d, want %v, %d", c.what, c.n, c.bits, l, r.Fail(), c.want, c.err)
		}
		checkTake(t, c.what, c.bits, c.n)
	}
}

// All bits that an order of n channels may have: the orders are among them,
// each once, and else a mark is too great.
func TestTakeOfAllBits(t *testing.T) {
	for n, orders := range []int{0, 1, 2, 6, 24, 120, 720, 5040, 40320} {
		if n == 0 {
			continue
		}
		good, count := 0, countWords(n)
		for k := range 1 << count {
			switch e := checkTake(t, "any bits", binary(k, count), n); e {
			case api.OK:
				good++
			case api.ErrOrder:
			default:
				t.Fatalf("P12.1: Take of %d of %s fails with %d", n, binary(k, count), e)
			}
		}
		if good != orders {
			t.Errorf("P12.1: of %d channels bits tell %d orders, want %d", n, good, orders)
		}
	}
}

// Bits ended ahead of each of an order's, whether a mark is too great or not.
func TestTakeWhereBitsEndTooEarly(t *testing.T) {
	rnd := rand.New(rand.NewSource(6))
	for n := 2; n <= 8; n++ {
		count := countWords(n)
		all := []string{strings.Repeat("0", count), strings.Repeat("1", count)}
		for range 100 {
			all = append(all, binary(rnd.Intn(1<<count), count), bitsWords(rnd.Perm(n)))
		}
		for _, bits := range all {
			for end := range len(bits) {
				checkNothing(t, "bits that end: "+bits[:end], readerOf(bits[:end]), n, api.ErrEnd)
			}
		}
	}
}

func TestTakeOfANumberOutside(t *testing.T) {
	for _, n := range append(outside(), 0) {
		for _, bits := range []string{"", "0", strings.Repeat("0", 64), strings.Repeat("1", 64)} {
			checkNothing(t, "a number outside", readerOf(bits), n, api.ErrRange)
		}
	}
}

func TestTakeOfAReaderThatFailed(t *testing.T) {
	for e := api.ErrRange; e <= api.ErrKind; e++ {
		for _, bits := range []string{"", "0", strings.Repeat("0", 40), strings.Repeat("1", 40)} {
			for _, n := range []int{1, 2, 3, 7, 8, 0, -1, 9} {
				r := readerOf(bits)
				r.Give(e)
				checkNothing(t, "a reader that failed", r, n, e)
			}
		}
	}
}

// A reader that failed has nothing left, whatever stands behind the order.
func TestAFailedReaderHasNothingLeft(t *testing.T) {
	for _, c := range []struct {
		n    int
		want api.Errno
	}{{3, api.ErrOrder}, {7, api.ErrOrder}, {8, api.ErrOrder}, {9, api.ErrRange}, {0, api.ErrRange}} {
		r := readerOf(strings.Repeat("1", 64))
		if Take(r, c.n); r.Fail() != c.want || r.Take(8) != 0 || r.Left() != 0 || r.End() != c.want {
			t.Errorf("P12.1: Take of %d: the reader fails with %d, want %d and no bits", c.n, r.Fail(), c.want)
		}
	}
}

func TestTakeOfAnyBits(t *testing.T) {
	rnd := rand.New(rand.NewSource(7))
	count := map[api.Errno]int{}
	for range 10000 {
		bits := binary(rnd.Intn(1<<24), 24)[rnd.Intn(25):]
		count[checkTake(t, "any bits", bits, rnd.Intn(10))]++
	}
	for _, e := range []api.Errno{api.OK, api.ErrOrder, api.ErrEnd, api.ErrRange} {
		if count[e] < 500 {
			t.Errorf("P12.1: any bits have the error %d %d times", e, count[e])
		}
	}
}

// Behind each number of bits, by a reader that stands within a byte.
func TestTakeBehindEachNumberOfBits(t *testing.T) {
	rnd := rand.New(rand.NewSource(8))
	for range 300 {
		l := rnd.Perm(1 + rnd.Intn(8))
		bits := bitsWords(l)
		for ahead := range 17 {
			r := readerBehind(ahead, bits+"0110")
			left := r.Left() - len(bits)
			if got := Take(r, len(l)); !slices.Equal(got, l) || r.Left() != left || r.Fail() != api.OK || r.Take(4) != 6 {
				t.Fatalf("P12.2: behind %d bits %v comes back as %v, %d bits left, want %d", ahead, l, got, r.Left(), left)
			}
		}
	}
}
