package rank

import (
	"math/rand"
	"slices"
	"testing"

	"sackbut/api"
	"sackbut/pipe"
)

// scribble writes over a list, its spare room too.
func scribble(l []int) {
	l = l[:cap(l)]
	for i := range l {
		l[i] = 17
	}
}

// room is numbers with spare room behind them, and what they were.
type room struct {
	all, kept []int
	count     int
}

func roomOf(l []int) *room {
	all := append(slices.Clone(l), 7, -7, 1<<40)
	return &room{all, slices.Clone(all), len(l)}
}

func (r *room) numbers() []int { return r.all[:r.count] }

func (r *room) stays(t *testing.T, what string) {
	t.Helper()
	if !slices.Equal(r.all, r.kept) {
		t.Fatalf("P12.3: %s changes what was handed in: %v, want %v", what, r.all, r.kept)
	}
}

// call is one that answers a list.
type call struct {
	name string
	do   func(l []int) []int
}

func calls() []call {
	return []call{
		{"Marks", Marks},
		{"Of", func(l []int) []int { out, _ := Of(l); return out }},
		{"Places", Places},
		{"Sorted", func(l []int) []int { out, _ := Sorted(l); return out }},
	}
}

// handed is what a call is given: an order, marks, or masters.
func handed(rnd *rand.Rand, name string) []int {
	n := 1 + rnd.Intn(8)
	switch name {
	case "Of":
		return anyMarks(rnd, n)
	case "Sorted":
		return anyMasters(rnd, n)
	}
	return rnd.Perm(n)
}

func TestWhatIsHandedInStays(t *testing.T) {
	rnd := rand.New(rand.NewSource(14))
	for range 500 {
		for _, c := range calls() {
			in := roomOf(handed(rnd, c.name))
			c.do(in.numbers())
			in.stays(t, c.name)
		}
		l, masters := roomOf(rnd.Perm(8)), roomOf(anyMasters(rnd, 8))
		var w pipe.Writer
		Good(l.numbers())
		Put(&w, l.numbers())
		Goes(l.numbers(), masters.numbers())
		l.stays(t, "Good, Put or Goes")
		masters.stays(t, "Goes")
	}
}

func TestWhatIsHandedInStaysAtAnError(t *testing.T) {
	lists := append(noOrders(), []int{1, 0}, []int{1, 2, 0, 1}, []int{-1, -1, 2, 1}, []int{2, 1, 1})
	for _, l := range lists {
		in, masters := roomOf(l), roomOf([]int{-1, 5, 0})
		for _, c := range calls() {
			c.do(in.numbers())
			in.stays(t, c.name+" with an error")
		}
		var w pipe.Writer
		Good(in.numbers())
		Put(&w, in.numbers())
		Goes(in.numbers(), masters.numbers())
		Goes(masters.numbers(), in.numbers())
		in.stays(t, "Good, Put or Goes, which answers no,")
		masters.stays(t, "Goes, which answers no,")
	}
}

func TestAnswersAreNewMemory(t *testing.T) {
	rnd := rand.New(rand.NewSource(15))
	for range 500 {
		for _, c := range calls() {
			in := roomOf(handed(rnd, c.name))
			out := c.do(in.numbers())
			kept := slices.Clone(out)
			scribble(c.do(in.numbers()))
			in.stays(t, "writing over an answer of "+c.name)
			if !slices.Equal(out, kept) {
				t.Fatalf("P12.3: two answers of %s share memory: %v", c.name, out)
			}
			scribble(in.all)
			if !slices.Equal(out, kept) {
				t.Fatalf("P12.3: an answer of %s shares memory with what was handed in: %v", c.name, out)
			}
		}
	}
}

// Some are the same numbers as what was handed in, and yet another list.
func TestTheSameNumbersAreNewMemory(t *testing.T) {
	for _, l := range [][]int{{0}, {1, 0}} {
		for _, c := range calls()[:3] {
			in := roomOf(l)
			out := c.do(in.numbers())
			if !slices.Equal(out, l) {
				t.Errorf("P12.1: %s of %v: %v", c.name, l, out)
			}
			scribble(out)
			in.stays(t, "writing over an answer of "+c.name)
		}
	}
}

func TestWhatIsTakenIsNewMemory(t *testing.T) {
	b := []byte{0x95, 0x6C, 0x00, 0x95, 0x6C, 0x00}
	kept := slices.Clone(b)
	r := pipe.Open(b)
	first := Take(r, 7)
	want := slices.Clone(first)
	r.Take(10)
	second := Take(r, 7)
	if len(want) != 7 || !slices.Equal(second, want) {
		t.Fatalf("P12.1: Take of the same bits: %v, %v", first, second)
	}
	scribble(second)
	if !slices.Equal(first, want) || !slices.Equal(b, kept) {
		t.Errorf("P12.3: writing over what was taken changes %v, %x", first, b)
	}
}

// One list may be an order and its masters.
func TestAnOrderWithItself(t *testing.T) {
	l := roomOf([]int{0, 1})
	if Goes(l.numbers(), l.numbers()) {
		t.Error("P12.1: 0, 1 goes with itself")
	}
	l.stays(t, "Goes with itself")
}

// An error's answer is nothing, not what was done up to it.
func TestAnErrorAnswersNothing(t *testing.T) {
	for _, l := range [][]int{{0, 0, 0, 1}, {2, 1, 1}, make([]int, 9), {-2}} {
		if out, _ := Of(l); out != nil {
			t.Errorf("R3: Of %v beside an error: %v", l, out)
		}
	}
	for _, l := range [][]int{{-1, -1, 3, 2}, {-1, 1}, {-1, 2}, make([]int, 9)} {
		if out, _ := Sorted(l); out != nil {
			t.Errorf("R3: Sorted of %v beside an error: %v", l, out)
		}
	}
	for _, c := range []struct {
		bits string
		n    int
	}{{"0011111", 4}, {"000", 4}, {"0000000", 9}, {"000", 0}} {
		if out := Take(readerOf(c.bits), c.n); out != nil {
			t.Errorf("R3: Take of %d of %s beside an error: %v", c.n, c.bits, out)
		}
	}
}

// No list and an empty one are the same.
func TestNoListIsAnEmptyOne(t *testing.T) {
	for _, l := range [][]int{nil, {}} {
		var w pipe.Writer
		_, of := Of(l)
		_, sorted := Sorted(l)
		if Good(l) || Put(&w, l) || w.Len() != 0 || Goes(l, nil) || Goes(nil, l) || Goes(l, []int{-1}) || of != api.ErrOrder || sorted != api.ErrOrder {
			t.Errorf("R5: of an empty list, none: %t, answers are others", l == nil)
		}
	}
}

func TestAnswersDependOnArguments(t *testing.T) {
	rnd := rand.New(rand.NewSource(16))
	for range 300 {
		for _, c := range calls() {
			in, other := handed(rnd, c.name), handed(rnd, c.name)
			want := c.do(in)
			c.do(other)
			if got := c.do(in); !slices.Equal(got, want) {
				t.Fatalf("R8: %s of %v, asked again: %v, want %v", c.name, in, got, want)
			}
		}
	}
}

// Put keeps nothing of a list, Take nothing of a reader.
func TestPutAndTakeAskedAgain(t *testing.T) {
	for range 3 {
		var w pipe.Writer
		if Put(&w, []int{1, 1}) || !Put(&w, []int{2, 0, 1}) || Put(&w, nil) || !Put(&w, []int{0}) || !Put(&w, []int{1, 0}) {
			t.Fatal("R8: Put answers otherwise, asked again")
		}
		if bitsOf(&w) != "1001" {
			t.Fatalf("R8: Put, asked again: bits %s", bitsOf(&w))
		}
		r := pipe.Open(w.Bytes())
		if first, second, third := Take(r, 3), Take(r, 1), Take(r, 2); !slices.Equal(first, []int{2, 0, 1}) || !slices.Equal(second, []int{0}) || !slices.Equal(third, []int{1, 0}) || r.End() != api.OK {
			t.Fatalf("R8: Take answers otherwise, asked again: %v, %v, %v", first, second, third)
		}
	}
}
