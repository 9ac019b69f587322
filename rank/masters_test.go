package rank

import (
	"math/rand"
	"slices"
	"testing"

	"sackbut/api"
)

func TestGoes(t *testing.T) {
	for _, c := range []struct {
		what       string
		l, masters []int
		want       bool
	}{
		{"one without a master", []int{0}, []int{-1}, true},
		{"one, its own master", []int{0}, []int{0}, false},
		{"two without masters", []int{1, 0}, []int{-1, -1}, true},
		{"behind its master", []int{0, 1}, []int{-1, 0}, true},
		{"behind its master, the other way", []int{1, 0}, []int{1, -1}, true},
		{"ahead of its master", []int{0, 1}, []int{1, -1}, false},
		{"ahead of its master, the other way", []int{1, 0}, []int{-1, 0}, false},
		{"masters of each other", []int{0, 1}, []int{1, 0}, false},
		{"its own master, among two", []int{0, 1}, []int{-1, 1}, false},
		{"far behind its master", []int{2, 0, 1}, []int{-1, 2, -1}, true},
		{"a master's master", []int{1, 2, 0}, []int{2, -1, 1}, true},
		{"a master's master, ahead of it", []int{2, 1, 0}, []int{2, -1, 1}, false},
		{"two of one master", []int{2, 1, 0}, []int{2, 2, -1}, true},
		{"one of two ahead of their master", []int{1, 2, 0}, []int{2, 2, -1}, false},
		{"eight, each behind the next one", []int{7, 6, 5, 4, 3, 2, 1, 0}, []int{1, 2, 3, 4, 5, 6, 7, -1}, true},
		{"eight, the last two the other way", []int{7, 6, 5, 4, 3, 2, 0, 1}, []int{1, 2, 3, 4, 5, 6, 7, -1}, false},

		{"fewer masters", []int{0, 1}, []int{-1}, false},
		{"more masters", []int{0, 1}, []int{-1, -1, -1}, false},
		{"more masters than channels may be", []int{0, 1, 2, 3, 4, 5, 6, 7}, []int{-1, -1, -1, -1, -1, -1, -1, -1, -1}, false},
		{"no masters", []int{0}, nil, false},
		{"no numbers", nil, []int{-1}, false},
		{"nothing at all", nil, nil, false},
		{"one twice", []int{0, 0}, []int{-1, -1}, false},
		{"nine", []int{0, 1, 2, 3, 4, 5, 6, 7, 8}, []int{-1, -1, -1, -1, -1, -1, -1, -1, -1}, false},
		{"a master below -1", []int{0, 1}, []int{-1, -2}, false},
		{"a master that is the number of channels", []int{0, 1}, []int{2, -1}, false},
		{"a master above it", []int{0, 1}, []int{-1, 5}, false},
	} {
		if got := Goes(c.l, c.masters); got != c.want || goesWords(c.l, c.masters) != c.want {
			t.Errorf("P12.1: %s: Goes of %v with %v: %t, want %t", c.what, c.l, c.masters, got, c.want)
		}
	}
}

func checkGoes(t *testing.T, l, masters []int) bool {
	t.Helper()
	want := goesWords(l, masters)
	if got := Goes(l, masters); got != want {
		t.Fatalf("P12.1: Goes of %v with %v: %t, want %t", l, masters, got, want)
	}
	return want
}

// All short orders, with all masters and with such as are none, of as many
// channels and of others.
func TestGoesOfShortOrders(t *testing.T) {
	for n := 1; n <= 4; n++ {
		goes := 0
		for _, l := range ordersOf(n) {
			for count := range 4 {
				for _, masters := range listsOf(count, -2, count) {
					checkGoes(t, l, masters)
				}
			}
			for _, masters := range listsOf(n, -2, n) {
				if checkGoes(t, l, masters) {
					goes++
				}
			}
		}
		// At its place from the first one on, a channel has so many masters, or none.
		if want := []int{0, 1, 4, 36, 576}[n]; goes != want {
			t.Errorf("P12.1: orders of %d channels go with masters %d times, want %d", n, goes, want)
		}
	}
}

func TestGoesOfAnyOrder(t *testing.T) {
	rnd := rand.New(rand.NewSource(9))
	goes := 0
	for range 20000 {
		n := 2 + rnd.Intn(7)
		masters := anyMasters(rnd, n)
		if rnd.Intn(2) == 0 {
			for range n - 2 {
				masters[rnd.Intn(n)] = -1
			}
		}
		if checkGoes(t, rnd.Perm(n), masters) {
			goes++
		}
	}
	if goes < 2000 || goes > 18000 {
		t.Errorf("P12.1: of any orders %d go", goes)
	}
}

// One master is no channel's place, below and above, at each place.
func TestGoesWithAMasterThatIsNone(t *testing.T) {
	rnd := rand.New(rand.NewSource(10))
	for n := 1; n <= 8; n++ {
		masters := slices.Repeat([]int{-1}, n)
		for place := range n {
			for _, wrong := range append(outside()[1:], n, n+1) {
				for _, l := range [][]int{rising(n), rnd.Perm(n)} {
					if Goes(l, with(masters, place, wrong)) {
						t.Errorf("P12.1: %v goes with %v", l, with(masters, place, wrong))
					}
				}
			}
		}
	}
}

func TestGoesOfNoOrder(t *testing.T) {
	for _, l := range noOrders() {
		for _, master := range []int{-1, 0, 5, -2} {
			for n := range 10 {
				if Goes(l, slices.Repeat([]int{master}, n)) {
					t.Errorf("P12.1: %v goes with %d masters %d", l, n, master)
				}
			}
		}
		if Goes(l, slices.Repeat([]int{-1}, len(l))) {
			t.Errorf("P12.1: %v goes without masters", l)
		}
	}
}

func TestSorted(t *testing.T) {
	for _, c := range []struct {
		what          string
		masters, want []int
	}{
		{"one", []int{-1}, []int{0}},
		{"three without masters", []int{-1, -1, -1}, []int{0, 1, 2}},
		{"a master behind", []int{1, -1}, []int{1, 0}},
		{"a master ahead", []int{-1, 0}, []int{0, 1}},
		{"a master's master", []int{2, -1, 1}, []int{1, 2, 0}},
		{"one beside", []int{1, -1, -1}, []int{1, 0, 2}},
		{"one waits for the last one", []int{3, -1, -1, -1}, []int{1, 2, 3, 0}},
		{"the least of those that wait", []int{3, 3, -1, 2}, []int{2, 3, 0, 1}},
		{"one that may stand goes ahead of greater ones", []int{2, 0, -1, -1}, []int{2, 0, 1, 3}},
		{"a ring would be, but for one", []int{1, 2, -1}, []int{2, 1, 0}},
		{"eight, each behind the next one", []int{1, 2, 3, 4, 5, 6, 7, -1}, []int{7, 6, 5, 4, 3, 2, 1, 0}},
		{"eight, all behind the last one", []int{7, 7, 7, 7, 7, 7, 7, -1}, []int{7, 0, 1, 2, 3, 4, 5, 6}},
		{"eight, pairs", []int{4, 5, 6, 7, -1, -1, -1, -1}, []int{4, 0, 5, 1, 6, 2, 7, 3}},

		{"no masters", nil, nil},
		{"none of them", []int{}, nil},
		{"nine", []int{-1, -1, -1, -1, -1, -1, -1, -1, -1}, nil},
		{"nine, each ahead", []int{-1, 0, 1, 2, 3, 4, 5, 6, 7}, nil},
		{"a master of -2", []int{-2}, nil},
		{"a master of -2, among others", []int{-1, 0, -2}, nil},
		{"the number of channels", []int{1}, nil},
		{"the number of channels, among others", []int{-1, 3, 0}, nil},
		{"its own master", []int{0}, nil},
		{"its own master, among others", []int{-1, 1, -1}, nil},
		{"a ring of two", []int{1, 0}, nil},
		{"a ring of two, among others", []int{-1, 3, -1, 1, 0}, nil},
		{"a ring of three", []int{1, 2, 0}, nil},
		{"a ring of three, the other way", []int{2, 0, 1}, nil},
		{"a ring of three, among others", []int{-1, 3, 0, 5, -1, 1}, nil},
		{"one behind a ring", []int{1, 0, 1, -1}, nil},
		{"a ring of eight", []int{1, 2, 3, 4, 5, 6, 7, 0}, nil},
	} {
		wantErr := api.OK
		if c.want == nil {
			wantErr = api.ErrOrder
		}
		if got, e := Sorted(c.masters); !slices.Equal(got, c.want) || e != wantErr {
			t.Errorf("P12.1: %s: Sorted of %v: %v, %d, want %v, %d", c.what, c.masters, got, e, c.want, wantErr)
		}
		if l, e := sortedWords(c.masters, ordersOf(min(len(c.masters), 8))); !slices.Equal(l, c.want) || e != wantErr {
			t.Errorf("P12.1: %s: by the words Sorted of %v: %v, %d, want %v", c.what, c.masters, l, e, c.want)
		}
	}
}

// checkSorted holds Sorted against all orders.
func checkSorted(t *testing.T, masters []int, orders [][]int) api.Errno {
	t.Helper()
	want, wantErr := sortedWords(masters, orders)
	got, e := Sorted(masters)
	if !slices.Equal(got, want) || e != wantErr {
		t.Fatalf("P12.1: Sorted of %v: %v, %d, want %v, %d", masters, got, e, want, wantErr)
	}
	if Goes(got, masters) != (e == api.OK) {
		t.Fatalf("P12.1: Sorted of %v is %v, %d, and it goes: %t", masters, got, e, Goes(got, masters))
	}
	return e
}

// All masters, and such as are none, of few channels.
func TestSortedOfFewChannels(t *testing.T) {
	for n := range 6 {
		orders, good := ordersOf(n), 0
		for _, masters := range listsOf(n, -2, n) {
			if checkSorted(t, masters, orders) == api.OK {
				good++
			}
		}
		// Masters without a ring are a wood of so many trees that have a root.
		if want := []int{0, 1, 3, 16, 125, 1296}[n]; good != want {
			t.Errorf("P12.1: of %d channels %d lists of masters have an order, want %d", n, good, want)
		}
	}
}

func TestSortedOfManyChannels(t *testing.T) {
	rnd := rand.New(rand.NewSource(11))
	for n := 6; n <= 8; n++ {
		orders, rings := ordersOf(n), 0
		for range 300 {
			if e := checkSorted(t, anyMasters(rnd, n), orders); e != api.OK {
				t.Fatalf("P12.1: an order goes, and Sorted answers %d", e)
			}
		}
		for range 50 {
			masters := anyMasters(rnd, n)
			masters[rnd.Intn(n)] = rnd.Intn(n)
			if checkSorted(t, masters, orders) != api.OK {
				rings++
			}
		}
		if rings < 5 {
			t.Errorf("P12.1: of any masters of %d channels %d have a ring", n, rings)
		}
	}
}

// A ring of each length, of any channels, the others behind it or beside.
func TestSortedOfRings(t *testing.T) {
	rnd := rand.New(rand.NewSource(12))
	for n := 1; n <= 8; n++ {
		for length := 1; length <= n; length++ {
			for range 50 {
				l, masters := rnd.Perm(n), slices.Repeat([]int{-1}, n)
				for i, channel := range l[:length] {
					masters[channel] = l[(i+1)%length]
				}
				for _, channel := range l[length:] {
					masters[channel] = []int{-1, l[0]}[rnd.Intn(2)]
				}
				if got, e := Sorted(masters); len(got) != 0 || e != api.ErrOrder {
					t.Fatalf("P12.1: Sorted of %v, a ring of %d: %v, %d, want ErrOrder alone", masters, length, got, e)
				}
				// Without one of its masters it is no ring.
				masters[l[0]] = -1
				if _, e := Sorted(masters); e != api.OK {
					t.Fatalf("P12.1: Sorted of %v: %d", masters, e)
				}
			}
		}
	}
}

// One master is no channel's place, at each place.
func TestSortedOfAMasterThatIsNone(t *testing.T) {
	rnd := rand.New(rand.NewSource(13))
	for n := 1; n <= 8; n++ {
		for place := range n {
			for _, wrong := range append(outside()[1:], n, n+1) {
				masters := with(anyMasters(rnd, n), place, wrong)
				if got, e := Sorted(masters); len(got) != 0 || e != api.ErrOrder {
					t.Errorf("P12.1: Sorted of %v: %v, %d, want ErrOrder alone", masters, got, e)
				}
			}
		}
	}
}

func TestSortedOfAsManyMastersAsMayNotBe(t *testing.T) {
	for _, n := range []int{0, 9, 10, 16, 100} {
		for _, masters := range [][]int{slices.Repeat([]int{-1}, n), slices.Repeat([]int{0}, n), slices.Repeat([]int{-2}, n)} {
			if got, e := Sorted(masters); len(got) != 0 || e != api.ErrOrder {
				t.Errorf("P12.1: Sorted of %v: %v, %d, want ErrOrder alone", masters, got, e)
			}
		}
	}
}
