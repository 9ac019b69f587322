package rank

import (
	"math/rand"
	"slices"
	"testing"

	"sackbut/api"
)

func TestGood(t *testing.T) {
	for _, c := range []struct {
		what string
		l    []int
		want bool
	}{
		{"no numbers", nil, false},
		{"none of them", []int{}, false},
		{"one", []int{0}, true},
		{"one, the length itself", []int{1}, false},
		{"one below 0", []int{-1}, false},
		{"two", []int{0, 1}, true},
		{"two, the other way", []int{1, 0}, true},
		{"two, one twice", []int{0, 0}, false},
		{"two, the last one twice", []int{1, 1}, false},
		{"two, the length itself", []int{0, 2}, false},
		{"two, -1", []int{-1, 0}, false},
		{"the chapter's", []int{2, 0, 1}, true},
		{"three, one twice, far from each other", []int{1, 0, 1}, false},
		{"three, from 1 on", []int{1, 2, 3}, false},
		{"three, -1 behind", []int{0, 1, -1}, false},
		{"eight", []int{7, 1, 2, 6, 5, 4, 3, 0}, true},
		{"eight, the length itself", []int{8, 1, 2, 6, 5, 4, 3, 0}, false},
		{"eight, the first one twice", []int{0, 1, 2, 3, 4, 5, 6, 0}, false},
		{"nine", []int{0, 1, 2, 3, 4, 5, 6, 7, 8}, false},
		{"nine, falling", []int{8, 7, 6, 5, 4, 3, 2, 1, 0}, false},
	} {
		if got := Good(c.l); got != c.want || goodWords(c.l) != c.want {
			t.Errorf("P12.1: %s: Good of %v: %t, want %t", c.what, c.l, got, c.want)
		}
	}
}

func TestGoodOfEachOrder(t *testing.T) {
	for n := 1; n <= 8; n++ {
		for _, l := range ordersOf(n) {
			if !Good(l) {
				t.Fatalf("P12.1: %v isn't good", l)
			}
		}
	}
}

// All short lists of numbers around those that may be.
func TestGoodOfShortLists(t *testing.T) {
	good := 0
	for n := range 6 {
		for _, l := range listsOf(n, -1, n) {
			if Good(l) != goodWords(l) {
				t.Fatalf("P12.1: Good of %v: %t", l, Good(l))
			}
			if Good(l) {
				good++
			}
		}
	}
	if good != 1+2+6+24+120 {
		t.Errorf("P12.1: %d short lists are good", good)
	}
}

func TestGoodOfNoOrders(t *testing.T) {
	for _, l := range noOrders() {
		if Good(l) {
			t.Errorf("P12.1: Good of %v", l)
		}
	}
	// An order, one of whose numbers is another one.
	rnd := rand.New(rand.NewSource(1))
	for n := 1; n <= 8; n++ {
		for place := range n {
			for wrong := -1; wrong <= n; wrong++ {
				l := rnd.Perm(n)
				if is := l[place] == wrong; Good(with(l, place, wrong)) != is {
					t.Errorf("P12.1: Good of %v: %t, want %t", with(l, place, wrong), !is, is)
				}
			}
		}
	}
}

func TestMarksAndOf(t *testing.T) {
	for _, c := range []struct {
		what     string
		l, marks []int
	}{
		{"one", []int{0}, []int{0}},
		{"two", []int{0, 1}, []int{0, 0}},
		{"two, the other way", []int{1, 0}, []int{1, 0}},
		{"the chapter's", []int{2, 0, 1}, []int{2, 0, 0}},
		{"its other way round", []int{1, 2, 0}, []int{1, 1, 0}},
		{"one in the middle first", []int{1, 0, 2}, []int{1, 0, 0}},
		{"four", []int{3, 1, 0, 2}, []int{3, 1, 0, 0}},
		{"eight, rising", []int{0, 1, 2, 3, 4, 5, 6, 7}, []int{0, 0, 0, 0, 0, 0, 0, 0}},
		{"eight, falling", []int{7, 6, 5, 4, 3, 2, 1, 0}, []int{7, 6, 5, 4, 3, 2, 1, 0}},
		{"eight, the last one first", []int{7, 0, 1, 2, 3, 4, 5, 6}, []int{7, 0, 0, 0, 0, 0, 0, 0}},
		{"eight, the first one last", []int{1, 2, 3, 4, 5, 6, 7, 0}, []int{1, 1, 1, 1, 1, 1, 1, 0}},
		{"eight", []int{4, 7, 0, 3, 6, 1, 5, 2}, []int{4, 6, 0, 2, 3, 0, 1, 0}},
	} {
		if got := Marks(c.l); !slices.Equal(got, c.marks) || !slices.Equal(marksWords(c.l), c.marks) {
			t.Errorf("P12.1: %s: Marks of %v: %v, want %v", c.what, c.l, got, c.marks)
		}
		if got, e := Of(c.marks); !slices.Equal(got, c.l) || e != api.OK {
			t.Errorf("P12.1: %s: Of %v: %v, %d, want %v", c.what, c.marks, got, e, c.l)
		}
		checkOf(t, c.marks)
	}
}

// checkOf holds Of against the words.
func checkOf(t *testing.T, marks []int) ([]int, api.Errno) {
	t.Helper()
	want, wantErr := ofWords(marks)
	if got, e := Of(marks); !slices.Equal(got, want) || e != wantErr {
		t.Fatalf("P12.1: Of %v: %v, %d, want %v, %d", marks, got, e, want, wantErr)
	}
	return want, wantErr
}

// Each order's marks, and the order of its marks again; no two have the same.
func TestEachOrdersMarks(t *testing.T) {
	for n := 1; n <= 8; n++ {
		orders, seen := ordersOf(n), map[string]int{}
		for _, l := range orders {
			marks := Marks(l)
			if !slices.Equal(marks, marksWords(l)) {
				t.Fatalf("P12.1: Marks of %v: %v, want %v", l, marks, marksWords(l))
			}
			if got, e := Of(marks); !slices.Equal(got, l) || e != api.OK {
				t.Fatalf("P12.2: Of the marks of %v: %v, %d", l, got, e)
			}
			text := ""
			for _, mark := range marks {
				text += binary(mark, 3)
			}
			seen[text]++
		}
		if len(seen) != len(orders) {
			t.Errorf("P12.2: %d orders of %d channels have %d lists of marks", len(orders), n, len(seen))
		}
	}
}

// All marks, right or not, of short lists.
func TestOfShortLists(t *testing.T) {
	orders := 0
	for n := range 6 {
		for _, marks := range listsOf(n, -1, n) {
			l, e := checkOf(t, marks)
			if e != api.OK {
				continue
			}
			orders++
			if got := Marks(l); !slices.Equal(got, marks) {
				t.Fatalf("P12.2: Marks of the order of %v: %v", marks, got)
			}
		}
	}
	if orders != 1+2+6+24+120 {
		t.Errorf("P12.1: %d short lists are an order's marks", orders)
	}
}

// anyMarks are an order's.
func anyMarks(rnd *rand.Rand, n int) []int {
	var out []int
	for left := n; left > 0; left-- {
		out = append(out, rnd.Intn(left))
	}
	return out
}

func TestOfAnyMarks(t *testing.T) {
	rnd := rand.New(rand.NewSource(2))
	for range 5000 {
		marks := anyMarks(rnd, 1+rnd.Intn(8))
		l, e := checkOf(t, marks)
		if e != api.OK || !slices.Equal(Marks(l), marks) {
			t.Fatalf("P12.2: Marks of the order of %v: %v", marks, Marks(l))
		}
	}
}

// One mark is wrong, at each place, the last one among them.
func TestOfAMarkThatIsWrong(t *testing.T) {
	rnd := rand.New(rand.NewSource(3))
	for n := 1; n <= 8; n++ {
		for place := range n {
			left := n - place
			for _, wrong := range append(outside(), left, left+1, n+1) {
				for _, marks := range [][]int{make([]int, n), anyMarks(rnd, n)} {
					if got, e := Of(with(marks, place, wrong)); len(got) != 0 || e != api.ErrOrder {
						t.Errorf("P12.1: Of %v: %v, %d, want ErrOrder alone", with(marks, place, wrong), got, e)
					}
				}
			}
			// One less may be.
			marks := with(make([]int, n), place, left-1)
			if _, e := checkOf(t, marks); e != api.OK {
				t.Errorf("P12.1: Of %v: %d", marks, e)
			}
		}
	}
}

func TestOfAsManyMarksAsMayNotBe(t *testing.T) {
	for _, marks := range [][]int{nil, {}, make([]int, 9), make([]int, 10), make([]int, 100), {8, 7, 6, 5, 4, 3, 2, 1, 0}, {-1, 0, 0, 0, 0, 0, 0, 0, 0}} {
		if got, e := Of(marks); len(got) != 0 || e != api.ErrOrder {
			t.Errorf("P12.1: Of %v: %v, %d, want ErrOrder alone", marks, got, e)
		}
	}
}

func TestPlaces(t *testing.T) {
	for _, c := range []struct{ l, want []int }{
		{[]int{0}, []int{0}},
		{[]int{1, 0}, []int{1, 0}},
		{[]int{2, 0, 1}, []int{1, 2, 0}},
		{[]int{1, 2, 0}, []int{2, 0, 1}},
		{[]int{4, 7, 0, 3, 6, 1, 5, 2}, []int{2, 5, 7, 3, 0, 6, 4, 1}},
	} {
		if got := Places(c.l); !slices.Equal(got, c.want) {
			t.Errorf("P12.1: Places of %v: %v, want %v", c.l, got, c.want)
		}
	}
	for n := 1; n <= 8; n++ {
		for _, l := range ordersOf(n) {
			got := Places(l)
			if !slices.Equal(got, placesWords(l)) || !slices.Equal(Places(got), l) {
				t.Fatalf("P12.1: Places of %v: %v, want %v", l, got, placesWords(l))
			}
		}
	}
}

// Of what is no order nothing is promised but that the calls end.
func TestMarksAndPlacesOfNoOrder(t *testing.T) {
	for _, l := range noOrders() {
		if marks, places := Marks(l), Places(l); len(marks) != 0 || len(places) != 0 {
			t.Errorf("P7: of %v there are marks %v, places %v", l, marks, places)
		}
	}
}
