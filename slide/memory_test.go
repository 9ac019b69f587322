package slide

import (
	"math/rand"
	"slices"
	"testing"

	"sackbut/pipe"
)

// scribble writes over a list, its spare room too.
func scribble(l []int) {
	l = l[:cap(l)]
	for i := range l {
		l[i] = -77
	}
}

// handed is a list and parts with spare room behind them, and copies of all.
type handed struct {
	room, kept       []int
	keys, keptKeys   []int
	count, power     int
	bytes, keptBytes []byte
}

func handOf(rnd *rand.Rand) *handed {
	l := anyList(rnd)
	p := anyParts(rnd, len(l))
	var w pipe.Writer
	Put(&w, l, p)
	h := &handed{count: len(l), power: p.P}
	h.room = append(slices.Clone(l), 5, 6, 7)
	h.keys = append(slices.Clone(p.K), 8, 9)
	h.bytes = append(w.Bytes(), 0xff, 0x5a)
	h.kept, h.keptKeys, h.keptBytes = slices.Clone(h.room), slices.Clone(h.keys), slices.Clone(h.bytes)
	return h
}

func (h *handed) list() []int { return h.room[:h.count] }

func (h *handed) parts() Parts { return Parts{h.power, h.keys[:1<<h.power]} }

func (h *handed) open() *pipe.Reader { return pipe.Open(h.bytes[:len(h.bytes)-2]) }

func (h *handed) stays(t *testing.T, call string) {
	t.Helper()
	if !slices.Equal(h.room, h.kept) || !slices.Equal(h.keys, h.keptKeys) || !slices.Equal(h.bytes, h.keptBytes) {
		t.Fatalf("P3.4: %s changes what it is handed: %v, %v", call, h.room, h.keys)
	}
}

func TestWhatIsHandedInStays(t *testing.T) {
	rnd := rand.New(rand.NewSource(11))
	for range 200 {
		h := handOf(rnd)
		Good(h.count, h.parts())
		h.stays(t, "Good")
		Bits(h.list(), h.parts())
		h.stays(t, "Bits")
		Best(h.list())
		h.stays(t, "Best")
		var w pipe.Writer
		Put(&w, h.list(), h.parts())
		h.stays(t, "Put")
		Take(h.open(), h.count)
		h.stays(t, "Take")
		Take(h.open(), h.count+1)
		h.stays(t, "a Take of one number more")
	}
}

func TestAnswersAreNewMemory(t *testing.T) {
	rnd := rand.New(rand.NewSource(12))
	for range 200 {
		h := handOf(rnd)
		best, _ := Best(h.list())
		other, _ := Best(h.list())
		scribble(best.K)
		h.stays(t, "writing over an answer of Best")
		if again, _ := Best(h.list()); !same(again, other) {
			t.Fatalf("P3.4: two answers of Best share memory: %v, want %v", other, again)
		}
		l, p := Take(h.open(), h.count)
		scribble(l)
		if !same(p, h.parts()) {
			t.Fatalf("P3.4: a list and its parts share memory: %v, want %v", p, h.parts())
		}
		scribble(p.K)
		h.stays(t, "writing over an answer of Take")
		if m, q := Take(h.open(), h.count); !slices.Equal(m, h.list()) || !same(q, h.parts()) {
			t.Fatalf("P3.4: two answers of Take share memory: %v, %v", m, q)
		}
	}
}

func TestPutKeepsNothing(t *testing.T) {
	rnd := rand.New(rand.NewSource(13))
	for range 200 {
		h := handOf(rnd)
		var w pipe.Writer
		Put(&w, h.list(), h.parts())
		text := textOf(w.Bytes())
		scribble(h.room)
		scribble(h.keys)
		if textOf(w.Bytes()) != text {
			t.Fatal("P3.4: Put keeps what it is handed")
		}
	}
}

func TestAnswersDependOnArguments(t *testing.T) {
	rnd := rand.New(rand.NewSource(14))
	for range 100 {
		h := handOf(rnd)
		p, bits := Best(h.list())
		Best(anyList(rnd))
		if again, as := Best(slices.Clone(h.list())); !same(p, again) || bits != as {
			t.Fatalf("R8: Best again: %v, %d, want %v, %d", again, as, p, bits)
		}
	}
}
