package rice

import (
	"math"
	"math/rand"
	"strconv"
	"strings"
	"testing"

	"sackbut/api"
	"sackbut/pipe"
)

func TestTakeFails(t *testing.T) {
	whole := zeros(24) + "1"
	for _, c := range []struct {
		name string
		bits string
		k    int
		want api.Errno
	}{
		{"nothing", "", 0, api.ErrEnd},
		{"nothing, k below", "", -1, api.ErrRange},
		{"nothing, k above", "", 25, api.ErrRange},
		{"k below", "11111111", -1, api.ErrRange},
		{"k above", "11111111", 25, api.ErrRange},
		{"the least k", "11111111", math.MinInt, api.ErrRange},
		{"the greatest k", "11111111", math.MaxInt, api.ErrRange},
		{"k above, at what else ends", "00000000", 25, api.ErrRange},
		{"zeros that end", zeros(8), 0, api.ErrEnd},
		{"24 zeros that end", zeros(24), 0, api.ErrEnd},
		{"25 zeros", zeros(25) + "1", 0, api.ErrRange},
		{"25 zeros under 24", zeros(25) + "1" + strings.Repeat("1", 38), 24, api.ErrRange},
		{"32 zeros that end", zeros(32), 0, api.ErrRange},
		{"no rest", "00000001", 1, api.ErrEnd},
		{"a short rest", "10000000", 8, api.ErrEnd},
		{"a short rest, all 1", "01111111", 7, api.ErrEnd},
		{"a short rest of 24", "1" + zeros(23), 24, api.ErrEnd},
		{"a short whole number", whole + strings.Repeat("1", 31), 0, api.ErrEnd},
		{"a short whole number of 0", whole + zeros(31), 0, api.ErrEnd},
		{"a whole 0", whole + zeros(34), 0, api.ErrForm},
		{"a whole 23", whole + binary(23, 34), 0, api.ErrForm},
		{"a whole 0 under 24", whole + zeros(34), 24, api.ErrForm},
		{"a whole one, quotient 23 under 3", whole + binary(24*8-1, 34), 3, api.ErrForm},
		{"a whole one, quotient 23 under 24", whole + binary(24<<24-1, 34), 24, api.ErrForm},
	} {
		r := pipe.Open(bytesOf(c.bits))
		if n := Take(r, c.k); n != 0 || r.Fail() != c.want {
			t.Errorf("P2.1: Take of %s: %d, fails with %d, want %d", c.name, n, r.Fail(), c.want)
		}
		checkFailed(t, c.name, r, c.want)
	}
}

// checkFailed takes of a reader that failed: it is nothing, and tells the
// same error.
func checkFailed(t *testing.T, name string, r *pipe.Reader, want api.Errno) {
	t.Helper()
	for _, k := range []int{0, 3, 24, 25, -1} {
		if n := Take(r, k); n != 0 || r.Fail() != want {
			t.Errorf("P2.1: Take under %d behind %s: %d, fails with %d, want %d", k, name, n, r.Fail(), want)
		}
	}
}

func TestTakeOfAReaderThatFailed(t *testing.T) {
	for e := api.ErrRange; e <= api.ErrKind; e++ {
		r := pipe.Open(bytesOf("0000010100000101"))
		r.Give(e)
		checkFailed(t, "error "+strconv.Itoa(int(e)), r, e)
	}
}

func TestWhatIsPutIsTaken(t *testing.T) {
	for _, n := range numbers() {
		for k := range 25 {
			var w pipe.Writer
			Put(&w, n, k)
			r := pipe.Open(w.Bytes())
			if got := Take(r, k); got != n || r.End() != api.OK {
				t.Fatalf("P2.2: %d under %d comes back as %d, End %d", n, k, got, r.End())
			}
		}
	}
}

// anyNumber gives small and great numbers as often.
func anyNumber(rnd *rand.Rand) int {
	return Unfold(rnd.Intn(1 << rnd.Intn(35)))
}

func TestListsArePutAndTaken(t *testing.T) {
	rnd := rand.New(rand.NewSource(1))
	for range 2000 {
		l, keys := make([]int, rnd.Intn(40)), make([]int, 40)
		var w pipe.Writer
		for i := range l {
			l[i], keys[i] = anyNumber(rnd), rnd.Intn(25)
			if !Put(&w, l[i], keys[i]) {
				t.Fatalf("P2.1: Put %d under %d: no", l[i], keys[i])
			}
		}
		r := pipe.Open(w.Bytes())
		for i, n := range l {
			if got := Take(r, keys[i]); got != n {
				t.Fatalf("P2.2: %d under %d comes back as %d", n, keys[i], got)
			}
		}
		if took := 8*len(w.Bytes()) - r.Left(); took != w.Len() || r.End() != api.OK {
			t.Fatalf("P2.2: %d bits taken of %d, End %d", took, w.Len(), r.End())
		}
	}
}

// checkBits takes a number of bits: if there is one, it is put as the same
// bits; if there is none, the reader failed as the chapter's words say.
func checkBits(t *testing.T, bits string, k int) {
	t.Helper()
	r := pipe.Open(bytesOf(bits))
	n := Take(r, k)
	if e := failOf(bits, k); r.Fail() != e {
		t.Fatalf("P2.1: %s under %d: fails with %d, want %d", bits, k, r.Fail(), e)
	}
	if r.Fail() != api.OK {
		if n != 0 {
			t.Fatalf("P2.1: %s under %d: fails, and answers %d", bits, k, n)
		}
		return
	}
	var w pipe.Writer
	took := len(bits) - r.Left()
	if !Put(&w, n, k) || w.Len() != took || textOf(w.Bytes())[:took] != bits[:took] {
		t.Fatalf("P2.2: %s under %d: %d of %d bits, put as %s", bits, k, n, took, textOf(w.Bytes()))
	}
	if Cost(n, k) != took {
		t.Fatalf("P2.1: Cost(%d, %d): %d, want %d", n, k, Cost(n, k), took)
	}
}

// failOf tells by the chapter's words how taking of these bits fails.
func failOf(bits string, k int) api.Errno {
	q := strings.Index(bits, "1")
	there := q
	if q < 0 {
		there = len(bits)
	}
	switch {
	case there > 24:
		return api.ErrRange
	case q < 0:
		return api.ErrEnd
	}
	rest := bits[q+1:]
	if q < 24 && len(rest) < k || q == 24 && len(rest) < 34 {
		return api.ErrEnd
	}
	if q == 24 {
		if z, _ := strconv.ParseInt(rest[:34], 2, 64); z/int64(math.Pow(2, float64(k))) < 24 {
			return api.ErrForm
		}
	}
	return api.OK
}

func TestAllShortBytes(t *testing.T) {
	for x := range 1 << 16 {
		for _, k := range []int{0, 1, 2, 7, 24, x % 25} {
			checkBits(t, binary(x, 16), k)
		}
	}
}

func TestWhatIsTakenHasItsBits(t *testing.T) {
	rnd := rand.New(rand.NewSource(2))
	for range 60000 {
		k := rnd.Intn(25)
		whole := max(0, min(24<<k+rnd.Intn(9)-4, 1<<34-1))
		if rnd.Intn(2) == 0 {
			whole = rnd.Intn(1 << rnd.Intn(35))
		}
		bits := zeros(rnd.Intn(27)) + "1" + binary(rnd.Intn(1<<46), 46)
		if rnd.Intn(2) == 0 {
			bits = zeros(24) + "1" + binary(whole, 34)
		}
		if rnd.Intn(4) == 0 {
			bits = bits[:rnd.Intn(len(bits))]
		}
		checkBits(t, textOf(bytesOf(bits)), k)
	}
}

func TestTakeTakesNoMore(t *testing.T) {
	for _, n := range numbers() {
		for k := range 25 {
			bits := wordsOf(n, k)
			r := pipe.Open(bytesOf("101" + bits + "10110011"))
			r.Take(3)
			if got := Take(r, k); got != n {
				t.Fatalf("P2.2: %d under %d comes back as %d", n, k, got)
			}
			if r.Take(8) != 0xb3 || r.Fail() != api.OK {
				t.Fatalf("P2.2: %d under %d: what comes behind it isn't left", n, k)
			}
		}
	}
}

func TestTakeLeavesBytes(t *testing.T) {
	room := bytesOf(wordsOf(12345, 3) + wordsOf(-7, 2) + zeros(40))
	kept := string(room)
	for k := -1; k <= 25; k++ {
		r := pipe.Open(room[:5])
		for range 4 {
			Take(r, k)
		}
	}
	if string(room) != kept {
		t.Error("R6: Take changes the bytes that its reader was opened upon")
	}
}
