package slide

import (
	"math"
	"math/rand"
	"slices"
	"strconv"
	"strings"
	"testing"

	"sackbut/api"
	"sackbut/pipe"
)

func TestTake(t *testing.T) {
	for _, c := range []struct {
		bits string
		n    int
		l    []int
		p    Parts
	}{
		{"00" + "00000" + "1", 1, []int{0}, Parts{0, []int{0}}},
		{"00" + "11000" + "1" + zeros(24), 1, []int{0}, Parts{0, []int{24}}},
		{"00" + "00010" + "101" + "00110", 2, []int{-1, 5}, Parts{0, []int{2}}},
		{"01" + "00000" + "01" + "00010" + "00110", 2, []int{-1, 5}, Parts{1, []int{0, 2}}},
		{"10" + "00000" + "1" + "00001" + "11" + "00010" + "110" + "00011" + "1000", 4, []int{0, -1, 1, 0}, Parts{2, []int{0, 1, 2, 3}}},
		{"11" + strings.Repeat("000001", 7) + "0000001", 8, []int{0, 0, 0, 0, 0, 0, 0, -1}, Parts{3, make([]int, 8)}},
		{"00" + "00000" + zeros(24) + "1" + strings.Repeat("1", 34), 1, []int{least}, Parts{0, []int{0}}},
		{"00" + "11000" + zeros(24) + "1" + strings.Repeat("1", 33) + "0", 1, []int{greatest}, Parts{0, []int{24}}},
		{"00" + "00000" + strings.Repeat("1", 1024), 1024, make([]int, 1024), Parts{0, []int{0}}},
	} {
		for ahead := range 8 {
			r := readerBehind(ahead, c.bits+"10110011")
			l, p := Take(r, c.n)
			if !slices.Equal(l, c.l) || !same(p, c.p) || r.Fail() != api.OK {
				t.Errorf("P3.1: Take %d of %s: %v, %v, fails with %d", c.n, c.bits, l, p, r.Fail())
			}
			if r.Take(8) != 0xb3 {
				t.Errorf("P3.1: Take %d of %s: what stands behind it isn't left", c.n, c.bits)
			}
		}
	}
}

// takeFail is bits of which a list of n numbers can't be taken; they end with
// the last byte's end.
type takeFail struct {
	name string
	bits string
	n    int
	want api.Errno
}

// takeFails are the chapter's errors, at their edges.
func takeFails() []takeFail {
	whole := zeros(24) + "1"
	return []takeFail{
		{"no numbers", "00000001", 0, api.ErrRange},
		{"one too many", "00000" + "000" + strings.Repeat("1", 1025), 1025, api.ErrRange},
		{"1032 in eight parts", "11" + zeros(2000), 1032, api.ErrRange},
		{"fewer than none", "00000001", -1, api.ErrRange},
		{"the fewest", "00000001", math.MinInt, api.ErrRange},
		{"the most", "00000001", math.MaxInt, api.ErrRange},
		{"no numbers of nothing", "", 0, api.ErrRange},
		{"one too many of nothing", "", 1025, api.ErrRange},
		{"one of nothing", "", 1, api.ErrEnd},
		{"three of nothing", "", 3, api.ErrEnd},
		{"half a P", "1", 1, api.ErrEnd},
		{"a P alone", "00", 1, api.ErrEnd},
		{"no multiple of 2", "01" + "00000" + "1111111111", 3, api.ErrForm},
		{"no multiple of 2, one", "01" + "00000" + "1", 1, api.ErrForm},
		{"no multiple of 2, nothing behind", "01", 1023, api.ErrForm},
		{"no multiple of 4, nothing behind", "10", 1022, api.ErrForm},
		{"no multiple of 8, nothing behind", "11", 1020, api.ErrForm},
		{"no multiple of 8, fewer than parts", "11", 4, api.ErrForm},
		{"no multiple of 2, a K above", "01" + "11111", 3, api.ErrForm},
		{"a K that ends", "00" + "0000", 1, api.ErrEnd},
		{"a K that ends, all 1", "00" + "1111", 1, api.ErrEnd},
		{"a second K that ends", "01" + "00000" + "1" + "0000", 2, api.ErrEnd},
		{"a second K that isn't there", "01" + "00000" + "1", 2, api.ErrEnd},
		{"K of 25", "00" + "11001" + "1" + zeros(80), 1, api.ErrRange},
		{"K of 25, nothing behind", "00" + "11001", 1, api.ErrRange},
		{"K of 31", "00" + "11111" + "1" + zeros(80), 1, api.ErrRange},
		{"a second K of 25", "01" + "00000" + "1" + "11001" + "11111", 2, api.ErrRange},
		{"the last K of eight of 25, nothing behind", "11" + strings.Repeat("000001", 7) + "11001", 8, api.ErrRange},
		{"a number that isn't there", "00" + "00000", 1, api.ErrEnd},
		{"a second number that isn't there", "00" + "00000" + "1", 2, api.ErrEnd},
		{"zeros that end", "00" + "00000" + zeros(24), 1, api.ErrEnd},
		{"25 zeros", "00" + "00000" + zeros(25) + "1", 1, api.ErrRange},
		{"a short rest", "00" + "00111" + "1" + "111111", 1, api.ErrEnd},
		{"a short whole number", "00" + "00000" + whole + zeros(33), 1, api.ErrEnd},
		{"a whole 0", "00" + "00000" + whole + zeros(34), 1, api.ErrForm},
		{"a whole 23", "00" + "00000" + whole + binary(23, 34), 1, api.ErrForm},
		{"a whole one under 24", "00" + "11000" + whole + binary(24<<24-1, 34), 1, api.ErrForm},
		{"a whole 0 behind others", "10" + "000001" + "000001" + "000001" + "00000" + whole + zeros(34), 4, api.ErrForm},
		{"a whole 0, then a K above", "01" + "00000" + whole + zeros(34) + "11001", 2, api.ErrForm},
		{"the 1024th that isn't there", "00" + "00000" + strings.Repeat("1", 1023), 1024, api.ErrEnd},
	}
}

// checkFailed takes of a reader that failed: there is nothing, and it tells
// the same error.
func checkFailed(t *testing.T, name string, r *pipe.Reader, want api.Errno) {
	t.Helper()
	for _, n := range []int{1, 8, 1024, 3, 0, -1, 1025} {
		if l, p := Take(r, n); !isNothing(l, p) || r.Fail() != want {
			t.Errorf("P3.1: Take %d behind %s: %v, %v, fails with %d, want %d", n, name, l, p, r.Fail(), want)
		}
	}
}

func TestTakeFails(t *testing.T) {
	for _, c := range takeFails() {
		r := readerBehind((8-len(c.bits)%8)%8, c.bits)
		if l, p := Take(r, c.n); !isNothing(l, p) || r.Fail() != c.want {
			t.Errorf("P3.1: Take of %s: %v, %v, fails with %d, want %d", c.name, l, p, r.Fail(), c.want)
		}
		checkFailed(t, c.name, r, c.want)
	}
}

func TestTakeOfAReaderThatFailed(t *testing.T) {
	for e := api.ErrRange; e <= api.ErrKind; e++ {
		r := pipe.Open(bytesOf("00" + "00000" + strings.Repeat("1", 2000)))
		r.Give(e)
		checkFailed(t, "error "+strconv.Itoa(int(e)), r, e)
	}
}

func TestWhatIsPutIsTaken(t *testing.T) {
	rnd := rand.New(rand.NewSource(8))
	for range 1500 {
		l := anyList(rnd)
		p := anyParts(rnd, len(l))
		var w pipe.Writer
		w.Put(0, rnd.Intn(9))
		ahead := w.Len()
		if !Put(&w, l, p) {
			t.Fatalf("P3.1: Put of %v in %v: no", l, p)
		}
		w.Put(0xb3, 8)
		r := pipe.Open(w.Bytes())
		r.Take(ahead)
		if m, q := Take(r, len(l)); !slices.Equal(m, l) || !same(q, p) {
			t.Fatalf("P3.2: %v in %v comes back as %v in %v", l, p, m, q)
		}
		if r.Take(8) != 0xb3 || r.End() != api.OK {
			t.Fatalf("P3.2: %v in %v: what stands behind isn't left", l, p)
		}
	}
}

func TestEdgesArePutAndTaken(t *testing.T) {
	for _, n := range []int{1, 2, 4, 8, 1023, 1024} {
		for _, power := range powersOf(n) {
			for _, x := range []int{least, least + 1, -1, 0, 1, greatest - 1, greatest} {
				for _, k := range []int{0, 1, 23, 24} {
					p := Parts{power, many(1<<power, k)}
					var w pipe.Writer
					Put(&w, many(n, x), p)
					r := pipe.Open(w.Bytes())
					if l, q := Take(r, n); !slices.Equal(l, many(n, x)) || !same(p, q) || r.End() != api.OK {
						t.Fatalf("P3.2: %d times %d in %v doesn't come back: %v, End %d", n, x, p, q, r.End())
					}
				}
			}
		}
	}
}

func TestListsOneBehindTheOther(t *testing.T) {
	rnd := rand.New(rand.NewSource(9))
	var w pipe.Writer
	var lists [][]int
	for range 200 {
		l := anyList(rnd)
		p, _ := Best(l)
		Put(&w, l, p)
		lists = append(lists, l)
	}
	r := pipe.Open(w.Bytes())
	for i, l := range lists {
		if m, p := Take(r, len(l)); !slices.Equal(m, l) || !Good(len(l), p) {
			t.Fatalf("P3.2: list %d, %v, comes back as %v in %v", i, l, m, p)
		}
	}
	if r.End() != api.OK {
		t.Errorf("P3.2: End behind all: %d", r.End())
	}
}

// checkBits takes a list of bits as the chapter's words do; what is taken is
// put as the same bits.
func checkBits(t *testing.T, bits string, n int) api.Errno {
	t.Helper()
	wantList, want, rest, e := takeWords(bits, n)
	r := pipe.Open(bytesOf(bits))
	l, p := Take(r, n)
	if r.Fail() != e || !slices.Equal(l, wantList) || !same(p, want) {
		t.Fatalf("P3.1: Take %d of %s: %v, %v, %d, want %v, %v, %d", n, bits, l, p, r.Fail(), wantList, want, e)
	}
	if e != api.OK {
		return e
	}
	if r.Left() != len(rest) {
		t.Fatalf("P3.1: Take %d of %s: %d bits left, want %d", n, bits, r.Left(), len(rest))
	}
	checkPut(t, l, p, bits[:len(bits)-len(rest)])
	return e
}

func TestAllShortBytes(t *testing.T) {
	for x := range 1 << 16 {
		checkBits(t, binary(x, 16), 1+x%3)
		checkBits(t, binary(x, 16), []int{4, 8, 0, 1025}[x%4])
	}
}

func TestTakeByTheWords(t *testing.T) {
	rnd, ends := rand.New(rand.NewSource(10)), [4]int{}
	for range 4000 {
		l := anyList(rnd)
		text := []byte(wordsOf(l, anyParts(rnd, len(l))))
		for range rnd.Intn(4) {
			text[rnd.Intn(len(text))] ^= 1
		}
		if rnd.Intn(3) == 0 {
			text = text[:rnd.Intn(len(text))]
		}
		ends[checkBits(t, textOf(bytesOf(string(text))), len(l))]++
	}
	for e, count := range ends {
		if count < 20 {
			t.Errorf("P3.1: error %d comes %d times only", e, count)
		}
	}
}
