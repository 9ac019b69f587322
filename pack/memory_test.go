package pack

import (
	"math/rand"
	"slices"
	"testing"

	"sackbut/api"
)

// scribble writes over a list, its spare room too.
func scribble[T int | byte](l []T) {
	l = l[:cap(l)]
	for i := range l {
		l[i] = 77
	}
}

// handed are channels and bytes with spare room behind them, and copies of all.
type handed struct {
	form                   Form
	rooms, kept            [][]int
	bytes, keptBytes       []byte
	channels, samples, row int
}

func handOf(rnd *rand.Rand) *handed {
	h := &handed{form: forms()[rnd.Intn(6)], channels: 1 + rnd.Intn(api.MaxChannels), samples: 1 + rnd.Intn(40)}
	h.row = h.channels * h.form.Bits / 8
	h.rooms = anyChannels(rnd, h.form, h.channels+1, h.samples+3)
	h.bytes = anyBytes(rnd, h.row*h.samples+5)
	h.kept, h.keptBytes = clone(h.rooms), slices.Clone(h.bytes)
	return h
}

func (h *handed) list() [][]int {
	out := make([][]int, 0, len(h.rooms))
	for _, room := range h.rooms {
		out = append(out, room[:h.samples])
	}
	return out[:h.channels]
}

func (h *handed) packed() []byte { return h.bytes[:h.row*h.samples] }

func (h *handed) stays(t *testing.T, what string) {
	t.Helper()
	if !same(h.rooms, h.kept) || !slices.Equal(h.bytes, h.keptBytes) {
		t.Fatalf("P5.3: %s changes what was handed in: %v, %x", what, h.rooms, h.bytes)
	}
}

func TestWhatIsHandedInStays(t *testing.T) {
	rnd := rand.New(rand.NewSource(8))
	for range 300 {
		h := handOf(rnd)
		l := h.list()
		Check(h.form, l)
		h.stays(t, "Check")
		Pack(h.form, l)
		h.stays(t, "Pack")
		Row(l, h.samples-1)
		h.stays(t, "Row")
		if whole := l[:cap(l)]; len(whole[h.channels]) != h.samples || !same(l, h.list()) {
			t.Fatalf("P5.3: the list of channels is changed: %v", whole)
		}
		Unpack(h.form, h.channels, h.packed())
		h.stays(t, "Unpack")
	}
}

func TestWhatIsRefusedStays(t *testing.T) {
	rnd := rand.New(rand.NewSource(9))
	for range 300 {
		h := handOf(rnd)
		_, greatest := ends(h.form.Bits)
		h.rooms[0][h.samples-1] = greatest + 1
		h.kept = clone(h.rooms)
		Check(h.form, h.list())
		Pack(h.form, h.list())
		h.stays(t, "a Pack of no sample")
		Unpack(h.form, 9, h.packed())
		Unpack(h.form, h.channels, h.bytes[:len(h.bytes)-4])
		h.stays(t, "an Unpack that is refused")
	}
}

func TestAnswersAreNewMemory(t *testing.T) {
	rnd := rand.New(rand.NewSource(10))
	for range 300 {
		h := handOf(rnd)
		first, _ := Pack(h.form, h.list())
		other, _ := Pack(h.form, h.list())
		kept := slices.Clone(other)
		scribble(first)
		h.stays(t, "writing over an answer of Pack")
		if again, _ := Pack(h.form, h.list()); !slices.Equal(other, kept) || !slices.Equal(again, kept) {
			t.Fatalf("P5.3: two answers of Pack share memory: %x, %x, want %x", other, again, kept)
		}
		scribble(Row(h.list(), 0))
		h.stays(t, "writing over an answer of Row")
		l, _ := Unpack(h.form, h.channels, h.packed())
		want := unpackWords(h.form, h.channels, h.packed())
		for c := range l {
			if !slices.Equal(l[c], want[c]) {
				t.Fatalf("P5.3: channels of one answer share memory: %v, want %v", l[c], want[c])
			}
			scribble(l[c])
		}
		h.stays(t, "writing over an answer of Unpack")
		if m, _ := Unpack(h.form, h.channels, h.packed()); !same(m, want) {
			t.Fatalf("P5.3: two answers of Unpack share memory: %v, want %v", m, want)
		}
	}
}

func TestNothingIsKept(t *testing.T) {
	rnd := rand.New(rand.NewSource(11))
	for range 300 {
		h := handOf(rnd)
		b, _ := Pack(h.form, h.list())
		l, _ := Unpack(h.form, h.channels, h.packed())
		row := Row(h.list(), 0)
		keptBytes, kept, keptRow := slices.Clone(b), clone(l), slices.Clone(row)
		for _, room := range h.rooms {
			scribble(room)
		}
		scribble(h.bytes)
		if !slices.Equal(b, keptBytes) || !same(l, kept) || !slices.Equal(row, keptRow) {
			t.Fatalf("P5.3: answers share memory with what was handed in: %x, %v, %v", b, l, row)
		}
	}
}

func TestAnswersDependOnArguments(t *testing.T) {
	rnd := rand.New(rand.NewSource(12))
	for range 100 {
		h, other := handOf(rnd), handOf(rnd)
		b, _ := Pack(h.form, h.list())
		l, _ := Unpack(h.form, h.channels, h.packed())
		Pack(other.form, other.list())
		Unpack(other.form, other.channels, other.packed())
		again, _ := Pack(h.form, clone(h.list()))
		m, _ := Unpack(h.form, h.channels, slices.Clone(h.packed()))
		if !slices.Equal(again, b) || !same(m, l) {
			t.Fatalf("R8: asked again, other answers: %x, %v, want %x, %v", again, m, b, l)
		}
	}
}
