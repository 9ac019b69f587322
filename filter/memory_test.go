package filter

import (
	"math/rand"
	"slices"
	"testing"

	"sackbut/api"
)

// scribble writes over a list, its spare room too.
func scribble(l []int) {
	l = l[:cap(l)]
	for i := range l {
		l[i] = 17
	}
}

// handed is an index list, samples and their residuals, with spare room behind
// them, and copies of all.
type handed struct {
	rooms, kept [3][]int
	lens        [3]int
	least       int
}

func handOf(rnd *rand.Rand) *handed {
	h := &handed{lens: [3]int{rnd.Intn(api.MaxOrder + 1), rnd.Intn(30)}}
	h.lens[2] = h.lens[1]
	h.rooms[0] = anyList(rnd, h.lens[0]+3)
	h.rooms[1] = anySamples(rnd, h.lens[1]+3, 1<<26)
	h.rooms[2] = append(residualsWords(h.index(), h.samples()), 5, 6, 7)
	h.least, _ = leastWords(sumsWords(h.index(), h.samples()))
	for i, room := range h.rooms {
		h.kept[i] = slices.Clone(room)
	}
	return h
}

func (h *handed) index() []int { return h.rooms[0][:h.lens[0]] }

func (h *handed) samples() []int { return h.rooms[1][:h.lens[1]] }

func (h *handed) residuals() []int { return h.rooms[2][:h.lens[2]] }

func (h *handed) stays(t *testing.T, what string) {
	t.Helper()
	for i := range h.rooms {
		if !slices.Equal(h.rooms[i], h.kept[i]) {
			t.Fatalf("P7.3: %s changes what was handed in: %v, want %v", what, h.rooms[i], h.kept[i])
		}
	}
}

// are tells whether answers are the residuals and the samples.
func (h *handed) are(residuals, samples []int) bool {
	return slices.Equal(residuals, h.kept[2][:h.lens[2]]) && slices.Equal(samples, h.kept[1][:h.lens[1]])
}

func TestWhatIsHandedInStays(t *testing.T) {
	rnd := rand.New(rand.NewSource(9))
	for range 500 {
		h := handOf(rnd)
		Residuals(h.index(), h.samples())
		h.stays(t, "Residuals")
		Samples(h.index(), h.residuals(), 1<<26)
		h.stays(t, "Samples")
		Samples(h.index(), h.residuals(), 7)
		h.stays(t, "Samples with an error")
		Least(h.index(), h.samples())
		h.stays(t, "Least")
	}
}

func TestAnswersAreNewMemory(t *testing.T) {
	rnd := rand.New(rand.NewSource(10))
	for range 500 {
		h := handOf(rnd)
		residuals, _ := Residuals(h.index(), h.samples())
		samples, _ := Samples(h.index(), h.residuals(), 1<<26)
		other, _ := Residuals(h.index(), h.samples())
		scribble(other)
		h.stays(t, "writing over an answer of Residuals")
		other, _ = Samples(h.index(), h.residuals(), 1<<26)
		scribble(other)
		h.stays(t, "writing over an answer of Samples")
		if !h.are(residuals, samples) {
			t.Fatalf("P7.3: two answers share memory: %v, %v", residuals, samples)
		}
		for _, room := range h.rooms {
			scribble(room)
		}
		if !h.are(residuals, samples) {
			t.Fatalf("P7.3: answers share memory with what was handed in: %v, %v", residuals, samples)
		}
	}
}

// Without indices residuals are the samples, and yet another list.
func TestTheSameNumbersAreNewMemory(t *testing.T) {
	l := []int{4, 5, 6, 7}
	residuals, _ := Residuals(nil, l[:3])
	samples, _ := Samples(nil, l[:3], 7)
	scribble(residuals)
	scribble(samples)
	if !slices.Equal(l, []int{4, 5, 6, 7}) {
		t.Errorf("P7.3: answers share memory with what was handed in: %v", l)
	}
}

func TestAnswersDependOnArguments(t *testing.T) {
	rnd := rand.New(rand.NewSource(11))
	for range 300 {
		h, other := handOf(rnd), handOf(rnd)
		for range 2 {
			residuals, e := Residuals(h.index(), h.samples())
			samples, f := Samples(h.index(), h.residuals(), 1<<26)
			if least := Least(h.index(), h.samples()); !h.are(residuals, samples) || e != api.OK || f != api.OK || least != h.least {
				t.Fatalf("R8: asked again: %v, %d, %v, %d, %d", residuals, e, samples, f, least)
			}
			Residuals(other.index(), other.samples())
			Samples(other.index(), other.residuals(), 1<<26)
			Least(other.index(), other.samples())
		}
	}
}

// None and an empty list mean the same.
func TestNoneAndEmpty(t *testing.T) {
	for _, index := range [][]int{nil, {}, {-64, 5}} {
		for _, l := range [][]int{nil, {}} {
			residuals, e := Residuals(index, l)
			samples, f := Samples(index, l, 0)
			if n := Least(index, l); len(residuals) != 0 || e != api.OK || len(samples) != 0 || f != api.OK || n != 0 {
				t.Errorf("R5: of none: %v, %d, %v, %d, %d", residuals, e, samples, f, n)
			}
		}
	}
}
