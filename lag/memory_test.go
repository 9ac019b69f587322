package lag

import (
	"math/rand"
	"slices"
	"testing"

	"sackbut/api"
)

// scribble writes over a list, its spare room too.
func scribble(l []int) {
	l = l[:cap(l)]
	for i := range l {
		l[i] = 17
	}
}

// handed is a term, numbers with spare room behind them, and what the calls
// answer of them.
type handed struct {
	Term
	room, kept []int
	count      int
	off, on    []int
	best       Term
}

func handOf(rnd *rand.Rand) *handed {
	h := &handed{Term: anyTerm(rnd)}
	h.Lag = min(h.Lag, 30)
	h.count = rnd.Intn(60)
	h.room = anyNumbers(rnd, h.count+3, end/16)
	h.kept = slices.Clone(h.room)
	h.off, _ = offWords(h.Term, h.numbers())
	h.on, _ = onWords(h.Term, h.numbers())
	h.best, _ = bestWords(h.numbers())
	return h
}

func (h *handed) numbers() []int { return h.room[:h.count] }

func (h *handed) stays(t *testing.T, what string) {
	t.Helper()
	if !slices.Equal(h.room, h.kept) {
		t.Fatalf("P8.3: %s changes what was handed in: %v, want %v", what, h.room, h.kept)
	}
}

func TestWhatIsHandedInStays(t *testing.T) {
	rnd := rand.New(rand.NewSource(11))
	for range 500 {
		h := handOf(rnd)
		h.Off(h.numbers())
		h.stays(t, "Off")
		h.On(h.numbers())
		h.stays(t, "On")
		Best(h.numbers())
		h.stays(t, "Best")
	}
}

func TestWhatIsHandedInStaysAtAnError(t *testing.T) {
	for _, room := range [][]int{{end, end, end, 5}, {end, 3, 3 * end, 5}, {3, -2 * end, 4, 5}} {
		for _, term := range []Term{{1, 15}, {1, 0}, {2, 15}, {}} {
			h := &handed{Term: term, room: room, kept: slices.Clone(room), count: 3}
			h.Off(h.numbers())
			h.stays(t, "Off with an error")
			h.On(h.numbers())
			h.stays(t, "On with an error")
			Best(h.numbers())
			h.stays(t, "Best of numbers outside")
		}
	}
}

func TestAnswersAreNewMemory(t *testing.T) {
	rnd := rand.New(rand.NewSource(12))
	for range 500 {
		h := handOf(rnd)
		off, _ := h.Off(h.numbers())
		on, _ := h.On(h.numbers())
		other, _ := h.Off(h.numbers())
		scribble(other)
		h.stays(t, "writing over an answer of Off")
		other, _ = h.On(h.numbers())
		scribble(other)
		h.stays(t, "writing over an answer of On")
		if !slices.Equal(off, h.off) || !slices.Equal(on, h.on) {
			t.Fatalf("P8.3: two answers share memory: %v, %v", off, on)
		}
		scribble(h.room)
		if !slices.Equal(off, h.off) || !slices.Equal(on, h.on) {
			t.Fatalf("P8.3: answers share memory with what was handed in: %v, %v", off, on)
		}
	}
}

// By the term that does nothing, and by one whose Lag no number has, the
// numbers are the same, and yet another list.
func TestTheSameNumbersAreNewMemory(t *testing.T) {
	for _, term := range []Term{{}, {3, 15}, {255, 15}} {
		l := []int{4, 5, 6, 7}
		off, _ := term.Off(l[:3])
		on, _ := term.On(l[:3])
		if !slices.Equal(off, l[:3]) || !slices.Equal(on, l[:3]) {
			t.Errorf("P8.1: by %v: %v, %v", term, off, on)
		}
		scribble(off)
		scribble(on)
		if !slices.Equal(l, []int{4, 5, 6, 7}) {
			t.Errorf("P8.3: by %v answers share memory with what was handed in: %v", term, l)
		}
	}
}

func TestAnswersDependOnArguments(t *testing.T) {
	rnd := rand.New(rand.NewSource(13))
	for range 300 {
		h, other := handOf(rnd), handOf(rnd)
		for range 2 {
			off, e := h.Off(h.numbers())
			on, f := h.On(h.numbers())
			best := Best(h.numbers())
			if !slices.Equal(off, h.off) || !slices.Equal(on, h.on) || best != h.best || e != api.OK || f != api.OK {
				t.Fatalf("R8: asked again: %v, %d, %v, %d, %v", off, e, on, f, best)
			}
			other.Off(other.numbers())
			other.On(other.numbers())
			Best(other.numbers())
		}
	}
}

// None and an empty list mean the same.
func TestNoneAndEmpty(t *testing.T) {
	for _, term := range []Term{{}, {1, 1}, {255, 15}} {
		for _, l := range [][]int{nil, {}} {
			off, e := term.Off(l)
			on, f := term.On(l)
			if len(off) != 0 || e != api.OK || len(on) != 0 || f != api.OK || Best(l) != (Term{}) {
				t.Errorf("R5: of none by %v: %v, %d, %v, %d", term, off, e, on, f)
			}
		}
	}
}
