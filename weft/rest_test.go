package weft

import (
	"math/rand"
	"slices"
	"testing"

	"sackbut/api"
)

// checkRest holds Rest against the words.
func checkRest(t *testing.T, what string, w api.Weave, own, master []int) ([]int, api.Errno) {
	t.Helper()
	want, wantErr := restWords(w, own, master)
	if got, e := Rest(w, own, master); !slices.Equal(got, want) || e != wantErr {
		t.Fatalf("P11.1: %s: Rest by %v of %v by %v: %v, %d, want %v, %d", what, w, own, master, got, e, want, wantErr)
	}
	return want, wantErr
}

func TestRest(t *testing.T) {
	for _, c := range []struct {
		what              string
		w                 api.Weave
		own, master, want []int
	}{
		{"the chapter's", some(0, 0, 15, 0), []int{16, 32}, []int{16, 32}, []int{1, 2}},
		{"no numbers", some(0, 1, 2, 3), nil, nil, nil},
		{"no numbers, none", api.Weave{}, nil, nil, nil},
		{"none: the channel", api.Weave{}, []int{1, -2, lowest, highest}, []int{5, 6, lowest, 8}, []int{1, -2, lowest, highest}},

		{"one alone, by the place ahead", some(0, 15, 0, 0), []int{7}, []int{160}, []int{7}},
		{"one alone, by its place", some(0, 0, 15, 0), []int{7}, []int{160}, []int{-143}},
		{"one alone, by the next", some(0, 0, 0, 15), []int{7}, []int{160}, []int{7}},
		{"one alone, by all three", some(0, 15, 1, -16), []int{7}, []int{160}, []int{-3}},
		{"one alone, none", api.Weave{}, []int{7}, []int{160}, []int{7}},

		{"by the place ahead", some(0, 8, 0, 0), []int{0, 0, 0}, []int{2, 20, 200}, []int{0, -1, -10}},
		{"by the place", some(0, 0, 8, 0), []int{0, 0, 0}, []int{2, 20, 200}, []int{-1, -10, -100}},
		{"by the next", some(0, 0, 0, 8), []int{0, 0, 0}, []int{2, 20, 200}, []int{-10, -100, 0}},
		{"two, by all three", some(0, 1, 2, 3), []int{0, 0}, []int{16, 160}, []int{-32, -21}},
		{"three, by all three", some(0, 1, 2, 3), []int{100, 100, 100}, []int{16, 160, 1600}, []int{68, -221, -110}},

		{"down, one 16th", some(0, 0, 1, 0), []int{0, 0, 0, 0, 0, 0}, []int{1, 15, 16, -1, -16, -17}, []int{0, 0, -1, 1, 1, 2}},
		{"down, a gain below 0", some(0, 0, -1, 0), []int{0, 0, 0, 0, 0, 0}, []int{1, 15, 16, -1, -16, -17}, []int{1, 1, 1, 0, -1, -1}},
		{"down, of the sum of three", some(0, 1, 1, 1), []int{0, 0, 0}, []int{8, 8, -17}, []int{-1, 1, 1}},
		{"down, ahead alone", some(0, -1, 0, 0), []int{0, 0}, []int{1, 0}, []int{0, 1}},
		{"down, next alone", some(0, 0, 0, -1), []int{0, 0}, []int{0, 1}, []int{1, 0}},

		{"the least of all", some(0, -16, -16, -16), []int{lowest, lowest, lowest}, []int{lowest, lowest, lowest}, []int{lowest + 2*lowest, lowest + 3*lowest, lowest + 2*lowest}},
		{"the greatest of all", some(0, 15, 15, 15), []int{highest, highest, highest}, []int{lowest, lowest, lowest}, []int{highest + 15*1048576, highest + 45*524288, highest + 15*1048576}},
		{"samples at both ends", some(0, 0, -16, 0), []int{lowest, highest}, []int{highest, lowest}, []int{-1, -1}},
	} {
		if got, e := Rest(c.w, c.own, c.master); !slices.Equal(got, c.want) || e != api.OK {
			t.Errorf("P11.1: %s: Rest by %v of %v by %v: %v, %d, want %v", c.what, c.w, c.own, c.master, got, e, c.want)
		}
		checkRest(t, c.what, c.w, c.own, c.master)
	}
}

// A master's place tells which channel it is; of that the rest is the same.
func TestRestByEachMaster(t *testing.T) {
	for master := range 8 {
		l, e := Rest(some(master, 0, 15, 0), []int{16, 32}, []int{16, 32})
		if !slices.Equal(l, []int{1, 2}) || e != api.OK {
			t.Errorf("P11.1: Rest by master %d: %v, %d", master, l, e)
		}
	}
}

func TestRestByTheWords(t *testing.T) {
	rnd := rand.New(rand.NewSource(2))
	for range 3000 {
		count := rnd.Intn(12)
		checkRest(t, "any samples", anyWeave(rnd), anySamples(rnd, count), anySamples(rnd, count))
		checkRest(t, "quiet samples", anyWeave(rnd), quiet(rnd, count, 20), quiet(rnd, count, 20))
	}
	for _, count := range []int{1024, 100000} {
		checkRest(t, "many samples", anyWeave(rnd), anySamples(rnd, count), anySamples(rnd, count))
	}
}

// Lists of unlike lengths, some of them with what is no sample.
func unlike() [][2][]int {
	return [][2][]int{
		{{1}, nil}, {nil, {1}}, {{1, 2}, {1}}, {{1}, {1, 2}}, {{1, 2, 3, 4}, {1, 2, 3}},
		{{highest + 1}, nil}, {nil, {lowest - 1}}, {{1, 2}, {highest + 1}}, {{lowest - 1}, {1, 2}},
		{{1, lowest - 1}, {highest + 1}}, {{1}, {1, 1 << 62}},
	}
}

func TestRestOfAWeaveThatIsNotGood(t *testing.T) {
	for _, w := range noWeaves() {
		lists := append(unlike(), [2][]int{}, [2][]int{{1, 2}, {3, 4}}, [2][]int{{highest + 1}, {3}}, [2][]int{{3}, {lowest - 1}})
		for _, l := range lists {
			if got, e := Rest(w, l[0], l[1]); len(got) != 0 || e != api.ErrForm {
				t.Fatalf("P11.1: Rest by %v of %v by %v: %v, %d, want ErrForm alone", w, l[0], l[1], got, e)
			}
		}
	}
}

func TestRestOfUnlikeLengths(t *testing.T) {
	for _, w := range []api.Weave{{}, some(0, 0, 1, 0), some(7, -16, 15, 1)} {
		for _, l := range unlike() {
			if got, e := Rest(w, l[0], l[1]); len(got) != 0 || e != api.ErrShape {
				t.Errorf("P11.1: Rest by %v of %v by %v: %v, %d, want ErrShape alone", w, l[0], l[1], got, e)
			}
		}
	}
}

func TestRestOfWhatIsNoSample(t *testing.T) {
	l, m := []int{1, 2, 3, 4, 5}, []int{6, 7, 8, 9, 10}
	for _, w := range []api.Weave{{}, some(0, 0, 1, 0), some(0, 1, 0, 0), some(0, 0, 0, 1), some(7, -16, 15, 1)} {
		for place := range 5 {
			for _, n := range noSamples() {
				if got, e := Rest(w, with(l, place, n), m); len(got) != 0 || e != api.ErrValue {
					t.Errorf("P11.1: Rest by %v of %d at %d: %v, %d, want ErrValue alone", w, n, place, got, e)
				}
				if got, e := Rest(w, l, with(m, place, n)); len(got) != 0 || e != api.ErrValue {
					t.Errorf("P11.1: Rest by %v by %d at %d: %v, %d, want ErrValue alone", w, n, place, got, e)
				}
			}
			for _, n := range []int{lowest, highest} {
				checkRest(t, "a sample at an end", w, with(l, place, n), m)
				if _, e := checkRest(t, "a master's at an end", w, l, with(m, place, n)); e != api.OK {
					t.Errorf("P11.1: Rest by %v by %d at %d: %d", w, n, place, e)
				}
			}
		}
	}
	if got, e := Rest(api.Weave{}, []int{highest + 1}, []int{lowest - 1}); len(got) != 0 || e != api.ErrValue {
		t.Errorf("P11.1: Rest of no samples by none: %v, %d", got, e)
	}
}
