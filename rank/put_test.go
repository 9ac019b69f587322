package rank

import (
	"math/rand"
	"slices"
	"testing"

	"sackbut/api"
	"sackbut/pipe"
)

func TestPut(t *testing.T) {
	for _, c := range []struct {
		what string
		l    []int
		want string
	}{
		{"one", []int{0}, ""},
		{"two", []int{0, 1}, "0"},
		{"two, the other way", []int{1, 0}, "1"},
		{"the chapter's", []int{2, 0, 1}, "10" + "0"},
		{"three, falling", []int{2, 1, 0}, "10" + "1"},
		{"four, falling", []int{3, 2, 1, 0}, "11" + "10" + "1"},
		{"five, falling", []int{4, 3, 2, 1, 0}, "100" + "11" + "10" + "1"},
		{"six, falling", []int{5, 4, 3, 2, 1, 0}, "101" + "100" + "11" + "10" + "1"},
		{"seven, falling", []int{6, 5, 4, 3, 2, 1, 0}, "110" + "101" + "100" + "11" + "10" + "1"},
		{"eight, falling", []int{7, 6, 5, 4, 3, 2, 1, 0}, "111" + "110" + "101" + "100" + "11" + "10" + "1"},
		{"eight, rising", []int{0, 1, 2, 3, 4, 5, 6, 7}, "000" + "000" + "000" + "000" + "00" + "00" + "0"},
		{"eight", []int{4, 7, 0, 3, 6, 1, 5, 2}, "100" + "110" + "000" + "010" + "11" + "00" + "1"},
	} {
		var w pipe.Writer
		if !Put(&w, c.l) || bitsOf(&w) != c.want {
			t.Errorf("P12.1: %s: Put of %v: bits %s, want %s", c.what, c.l, bitsOf(&w), c.want)
		}
		if bitsWords(c.l) != c.want || countWords(len(c.l)) != len(c.want) {
			t.Errorf("P12.1: %s: by the words bits %s, want %s", c.what, bitsWords(c.l), c.want)
		}
	}
}

// checkPut holds Put behind some bits against the words.
func checkPut(t *testing.T, ahead string, l []int) {
	t.Helper()
	var w pipe.Writer
	for _, letter := range ahead {
		w.Put(uint64(letter-'0'), 1)
	}
	good, want := goodWords(l), ahead
	if good {
		want += bitsWords(l)
	}
	if put := Put(&w, l); put != good || bitsOf(&w) != want {
		t.Fatalf("P12.1: Put of %v behind %q: %t, bits %s, want %t, %s", l, ahead, put, bitsOf(&w), good, want)
	}
	w.Put(5, 3)
	if bitsOf(&w) != want+"101" {
		t.Fatalf("P12.1: behind Put of %v: bits %s, want %s101", l, bitsOf(&w), want)
	}
}

func TestPutOfEachOrder(t *testing.T) {
	for n := 1; n <= 7; n++ {
		for k, l := range ordersOf(n) {
			checkPut(t, "1011010011"[:k%11], l)
		}
	}
	rnd := rand.New(rand.NewSource(4))
	for range 3000 {
		checkPut(t, "1011010011"[:rnd.Intn(11)], rnd.Perm(8))
	}
}

// What is no order leaves a writer as it is, wherever it is.
func TestPutOfNoOrder(t *testing.T) {
	for ahead := range 10 {
		for _, l := range noOrders() {
			if goodWords(l) {
				t.Fatalf("P12.1: %v is an order", l)
			}
			checkPut(t, "111111111"[:ahead], l)
		}
	}
	for n := range 5 {
		for _, l := range listsOf(n, -1, n) {
			checkPut(t, "1", l)
		}
	}
}

// What is put is taken, behind so many bits, and what is put behind it too.
func TestWhatIsPutIsTaken(t *testing.T) {
	rnd := rand.New(rand.NewSource(5))
	for range 2000 {
		ahead, behind, n := rnd.Intn(20), rnd.Intn(20), rnd.Intn(1<<20)
		var orders [][]int
		var w pipe.Writer
		w.Put(uint64(n%(1<<ahead)), ahead)
		for range 1 + rnd.Intn(4) {
			l := rnd.Perm(1 + rnd.Intn(8))
			orders = append(orders, l)
			if !Put(&w, l) {
				t.Fatalf("P12.2: %v can't be put", l)
			}
		}
		w.Put(uint64(n%(1<<behind)), behind)

		r := pipe.Open(w.Bytes())
		if got := r.Take(ahead); got != uint64(n%(1<<ahead)) {
			t.Fatalf("P12.2: ahead of orders there is %d", got)
		}
		for _, l := range orders {
			if got := Take(r, len(l)); !slices.Equal(got, l) || r.Fail() != api.OK {
				t.Fatalf("P12.2: %v comes back as %v, %d", l, got, r.Fail())
			}
		}
		if got := r.Take(behind); got != uint64(n%(1<<behind)) || r.End() != api.OK {
			t.Fatalf("P12.2: behind orders there is %d, and the reader ends with %d", got, r.End())
		}
	}
}

func TestEachOrderIsPutAndTaken(t *testing.T) {
	for n := 1; n <= 8; n++ {
		for _, l := range ordersOf(n) {
			var w pipe.Writer
			if !Put(&w, l) || w.Len() != countWords(n) {
				t.Fatalf("P12.2: %v is put as %d bits", l, w.Len())
			}
			r := pipe.Open(w.Bytes())
			if got := Take(r, n); !slices.Equal(got, l) || r.End() != api.OK {
				t.Fatalf("P12.2: %v comes back as %v, %d", l, got, r.End())
			}
		}
	}
}
