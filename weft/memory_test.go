package weft

import (
	"math/rand"
	"slices"
	"testing"

	"sackbut/api"
	"sackbut/pipe"
)

// scribble writes over a list, its spare room too.
func scribble(l []int) {
	l = l[:cap(l)]
	for i := range l {
		l[i] = 17
	}
}

// room is numbers with spare room behind them, and what they were.
type room struct {
	all, kept []int
	count     int
}

func roomOf(l []int) *room {
	all := append(slices.Clone(l), 7, -7, 1<<40)
	return &room{all, slices.Clone(all), len(l)}
}

func (r *room) numbers() []int { return r.all[:r.count] }

func (r *room) stays(t *testing.T, what string) {
	t.Helper()
	if !slices.Equal(r.all, r.kept) {
		t.Fatalf("P11.3: %s changes what was handed in: %v, want %v", what, r.all, r.kept)
	}
}

// hand is a weave, two channels, a rest and what the calls answer of them.
type hand struct {
	api.Weave
	own, master, left *room
	rest, back        []int
	best              [3]int
}

func handOf(rnd *rand.Rand) *hand {
	n := 1 + rnd.Intn(20)
	h := &hand{Weave: anyWeave(rnd), own: roomOf(anySamples(rnd, n)), master: roomOf(anySamples(rnd, n))}
	h.rest, _ = restWords(h.Weave, h.own.numbers(), h.master.numbers())
	h.left = roomOf(h.rest)
	h.back, _ = backWords(h.Weave, h.rest, h.master.numbers(), highest)
	h.best, _ = bestWords(h.own.numbers(), h.master.numbers())
	return h
}

func (h *hand) doRest() ([]int, api.Errno) { return Rest(h.Weave, h.own.numbers(), h.master.numbers()) }

func (h *hand) doBack() ([]int, api.Errno) {
	return Back(h.Weave, h.left.numbers(), h.master.numbers(), highest)
}

func (h *hand) doBest() [3]int { return Best(h.own.numbers(), h.master.numbers()) }

func (h *hand) stays(t *testing.T, what string) {
	t.Helper()
	h.own.stays(t, what)
	h.master.stays(t, what)
	h.left.stays(t, what)
}

func TestWhatIsHandedInStays(t *testing.T) {
	rnd := rand.New(rand.NewSource(13))
	for range 500 {
		h := handOf(rnd)
		h.doRest()
		h.stays(t, "Rest")
		h.doBack()
		h.stays(t, "Back")
		h.doBest()
		h.stays(t, "Best")
	}
}

func TestWhatIsHandedInStaysAtAnError(t *testing.T) {
	for _, w := range []api.Weave{{}, some(0, 15, 15, 15), some(0, 0, 0, 0), {Master: 1}} {
		for _, l := range append(unlike(), [2][]int{{1, 2, highest + 1}, {1, 2, 3}}, [2][]int{{1, 2, 3}, {4, 5, lowest - 1}}, [2][]int{{1, 2, highest}, {highest, 0, highest}}) {
			own, master := roomOf(l[0]), roomOf(l[1])
			for _, most := range []int{-1, 0, 5, highest, highest + 1} {
				Back(w, own.numbers(), master.numbers(), most)
				own.stays(t, "Back with an error")
				master.stays(t, "Back with an error")
			}
			Rest(w, own.numbers(), master.numbers())
			Best(own.numbers(), master.numbers())
			own.stays(t, "Rest with an error, or Best")
			master.stays(t, "Rest with an error, or Best")
		}
	}
}

func TestAnswersAreNewMemory(t *testing.T) {
	rnd := rand.New(rand.NewSource(14))
	for range 500 {
		h := handOf(rnd)
		rest, _ := h.doRest()
		back, _ := h.doBack()
		other, _ := h.doRest()
		scribble(other)
		h.stays(t, "writing over an answer of Rest")
		other, _ = h.doBack()
		scribble(other)
		h.stays(t, "writing over an answer of Back")
		if !slices.Equal(rest, h.rest) || !slices.Equal(back, h.back) {
			t.Fatalf("P11.3: two answers share memory: %v, %v", rest, back)
		}
		scribble(h.own.all)
		scribble(h.master.all)
		scribble(h.left.all)
		if !slices.Equal(rest, h.rest) || !slices.Equal(back, h.back) {
			t.Fatalf("P11.3: answers share memory with what was handed in: %v, %v", rest, back)
		}
	}
}

// By a weave that is none, and by one that foresees nothing, the numbers are
// the same, and yet another list.
func TestTheSameNumbersAreNewMemory(t *testing.T) {
	for _, w := range []api.Weave{{}, some(0, 0, 15, 0)} {
		own, master := roomOf([]int{4, 5, 6}), roomOf([]int{0, 0, 0})
		rest, _ := Rest(w, own.numbers(), master.numbers())
		back, _ := Back(w, own.numbers(), master.numbers(), highest)
		if !slices.Equal(rest, own.numbers()) || !slices.Equal(back, own.numbers()) {
			t.Errorf("P11.1: by %v: %v, %v", w, rest, back)
		}
		scribble(rest)
		scribble(back)
		own.stays(t, "writing over an answer")
		master.stays(t, "writing over an answer")
	}
}

// One list may be both channels.
func TestAChannelByItself(t *testing.T) {
	w, l := some(0, 0, 15, 0), roomOf([]int{16, 32, -16})
	rest, e := Rest(w, l.numbers(), l.numbers())
	if !slices.Equal(rest, []int{1, 2, -1}) || e != api.OK {
		t.Errorf("P11.1: Rest of a channel by itself: %v, %d", rest, e)
	}
	back, e := Back(w, l.numbers(), l.numbers(), 100)
	if !slices.Equal(back, []int{31, 62, -31}) || e != api.OK {
		t.Errorf("P11.1: Back of a channel by itself: %v, %d", back, e)
	}
	if best := Best(l.numbers(), l.numbers()); best != [3]int{0, 15, 0} {
		t.Errorf("P11.1: Best of a channel by itself: %v", best)
	}
	l.stays(t, "a call by itself")
}

// An error's answer is nothing, not what was done up to it.
func TestAnErrorAnswersNothing(t *testing.T) {
	for _, c := range [][2][]int{{{1, 2, highest + 1}, {1, 2, 3}}, {{1, 2, 3}, {4, 5, lowest - 1}}, {{1, 2}, {1}}} {
		rest, _ := Rest(some(0, 0, 1, 0), c[0], c[1])
		back, _ := Back(some(0, 0, 1, 0), c[0], c[1], highest)
		if rest != nil || back != nil {
			t.Errorf("R3: of %v by %v beside an error: %v, %v", c[0], c[1], rest, back)
		}
	}
}

func TestAnswersDependOnArguments(t *testing.T) {
	rnd := rand.New(rand.NewSource(15))
	for range 300 {
		h, other := handOf(rnd), handOf(rnd)
		for range 2 {
			rest, e := h.doRest()
			back, f := h.doBack()
			best := h.doBest()
			if !slices.Equal(rest, h.rest) || !slices.Equal(back, h.back) || best != h.best || e != api.OK || f != api.OK {
				t.Fatalf("R8: asked again: %v, %d, %v, %d, %v", rest, e, back, f, best)
			}
			other.doRest()
			other.doBack()
			other.doBest()
		}
	}
}

// Put keeps nothing of a weave, Take nothing of a reader.
func TestPutAndTakeAskedAgain(t *testing.T) {
	for range 3 {
		var p pipe.Writer
		if Put(&p, some(0, 0, 0, 0), 8) || !Put(&p, some(5, 1, 2, 3), 8) || Put(&p, some(5, 1, 2, 3), 5) || !Put(&p, api.Weave{}, 5) {
			t.Fatal("R8: Put answers otherwise, asked again")
		}
		r := pipe.Open(p.Bytes())
		if first, second := Take(r, 8), Take(r, 8); first != some(5, 1, 2, 3) || second != (api.Weave{}) || r.End() != api.OK {
			t.Fatalf("R8: Take answers otherwise, asked again: %v, %v", first, second)
		}
	}
}

// None and an empty list mean the same.
func TestNoneAndEmpty(t *testing.T) {
	for _, w := range []api.Weave{{}, some(0, 1, 2, 3)} {
		for _, own := range [][]int{nil, {}} {
			for _, master := range [][]int{nil, {}} {
				rest, e := Rest(w, own, master)
				back, f := Back(w, own, master, 0)
				if len(rest) != 0 || e != api.OK || len(back) != 0 || f != api.OK || Best(own, master) != [3]int{} {
					t.Errorf("R5: of none by %v: %v, %d, %v, %d", w, rest, e, back, f)
				}
			}
		}
	}
}
