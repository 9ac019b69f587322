package lattice

import (
	"math/rand"
	"slices"
	"testing"

	"sackbut/api"
)

// scribble writes over a list, its spare room too.
func scribble(l []int) {
	l = l[:cap(l)]
	for i := range l {
		l[i] = 17
	}
}

// handed is an index list, samples and coefficients with spare room behind
// them, and copies of all.
type handed struct {
	room, kept       []int
	past, keptPast   []int
	coefs, keptCoefs []int
	count, samples   int
	// What the chapter's words say of them.
	reflections []int
	steps       [][]int
	prediction  int
}

func handOf(rnd *rand.Rand) *handed {
	h := &handed{count: rnd.Intn(api.MaxOrder + 1), samples: rnd.Intn(30)}
	h.room = anyList(rnd, h.count+3)
	h.past = anySamples(rnd, h.samples+3)
	l := h.list()
	h.reflections = reflectWords(l)
	for n := range h.count + 1 {
		h.steps = append(h.steps, coefsWords(l[:n]))
	}
	h.coefs = append(slices.Clone(h.steps[h.count]), 5, 6, 7)
	h.prediction = predictWords(h.predictor(), h.before())
	h.kept, h.keptPast, h.keptCoefs = slices.Clone(h.room), slices.Clone(h.past), slices.Clone(h.coefs)
	return h
}

func (h *handed) list() []int { return h.room[:h.count] }

func (h *handed) before() []int { return h.past[:h.samples] }

func (h *handed) predictor() []int { return h.coefs[:h.count] }

func (h *handed) stays(t *testing.T, what string) {
	t.Helper()
	if !slices.Equal(h.room, h.kept) || !slices.Equal(h.past, h.keptPast) || !slices.Equal(h.coefs, h.keptCoefs) {
		t.Fatalf("P6.3: %s changes what was handed in: %v, %v, %v", what, h.room, h.past, h.coefs)
	}
}

func TestWhatIsHandedInStays(t *testing.T) {
	rnd := rand.New(rand.NewSource(9))
	for range 500 {
		h := handOf(rnd)
		Good(h.list())
		h.stays(t, "Good")
		Reflect(h.list())
		h.stays(t, "Reflect")
		Coefs(h.list())
		h.stays(t, "Coefs")
		for range Steps(h.list()) {
			h.stays(t, "a step")
		}
		h.stays(t, "Steps")
		Predict(h.predictor(), h.before())
		h.stays(t, "Predict")
	}
}

func TestAnswersAreNewMemory(t *testing.T) {
	rnd := rand.New(rand.NewSource(10))
	for range 500 {
		h := handOf(rnd)
		reflections, coefs := Reflect(h.list()), Coefs(h.list())
		scribble(Reflect(h.list()))
		h.stays(t, "writing over an answer of Reflect")
		scribble(Coefs(h.list()))
		h.stays(t, "writing over an answer of Coefs")
		if !slices.Equal(reflections, h.reflections) || !slices.Equal(coefs, h.steps[h.count]) {
			t.Fatalf("P6.3: two answers share memory: %v, %v", reflections, coefs)
		}
		if again := Coefs(h.list()); !slices.Equal(again, coefs) {
			t.Fatalf("R8: asked again, Coefs answers %v, want %v", again, coefs)
		}
	}
}

func TestStepsThatAreWrittenOver(t *testing.T) {
	rnd := rand.New(rand.NewSource(11))
	for range 500 {
		h := handOf(rnd)
		steps := Steps(h.list())
		for range 2 {
			for n, coefs := range steps {
				if !slices.Equal(coefs, h.steps[n]) {
					t.Fatalf("P6.3: behind what was written over, step %d is %v, want %v", n, coefs, h.steps[n])
				}
				scribble(coefs)
				h.stays(t, "writing over a step")
			}
		}
	}
}

func TestNoTwoStepsShareMemory(t *testing.T) {
	rnd := rand.New(rand.NewSource(12))
	for range 200 {
		h := handOf(rnd)
		all := stepsOf(t, h.list())
		for n := range all {
			if !slices.Equal(all[n], h.steps[n]) {
				t.Fatalf("P6.3: step %d shares memory with another one: %v, want %v", n, all[n], h.steps[n])
			}
			kept := clone(all[n+1:])
			scribble(all[n])
			if !same(all[n+1:], kept) {
				t.Fatalf("P6.3: step %d shares memory with a later one", n)
			}
		}
	}
}

// The iterator is made of the list as it was handed in.
func TestNothingIsKept(t *testing.T) {
	rnd := rand.New(rand.NewSource(13))
	for range 500 {
		h := handOf(rnd)
		reflections, coefs, steps := Reflect(h.list()), Coefs(h.list()), Steps(h.list())
		for n, given := range steps {
			if !slices.Equal(given, h.steps[n]) {
				t.Fatalf("R6: behind a list that was written over, step %d is %v, want %v", n, given, h.steps[n])
			}
			scribble(h.room)
		}
		if !slices.Equal(reflections, h.reflections) || !slices.Equal(coefs, h.steps[h.count]) {
			t.Fatalf("R6: answers share memory with what was handed in: %v, %v", reflections, coefs)
		}
		for n, given := range steps {
			if !slices.Equal(given, h.steps[n]) {
				t.Fatalf("R6: gone through again, step %d is %v, want %v", n, given, h.steps[n])
			}
		}
	}
}

func TestAnswersDependOnArguments(t *testing.T) {
	rnd := rand.New(rand.NewSource(14))
	for range 200 {
		h, other := handOf(rnd), handOf(rnd)
		steps := Steps(h.list())
		for range Steps(other.list()) {
		}
		Coefs(other.list())
		Predict(other.predictor(), other.before())
		if got := Predict(h.predictor(), h.before()); got != h.prediction {
			t.Fatalf("R8: Predict answers %d, want %d", got, h.prediction)
		}
		for n, coefs := range steps {
			if !slices.Equal(coefs, h.steps[n]) {
				t.Fatalf("R8: step %d is %v, want %v", n, coefs, h.steps[n])
			}
		}
	}
}
