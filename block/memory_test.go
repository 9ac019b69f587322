package block

import (
	"math/rand"
	"slices"
	"testing"

	"sackbut/api"
	"sackbut/lag"
	"sackbut/pipe"
)

// scribble writes over a list, its spare room too.
func scribble(l []int) {
	l = l[:cap(l)]
	for i := range l {
		l[i] = -77
	}
}

// roomy is a block whose lists have spare room behind them, and what stands in
// all of it.
type roomy struct {
	b    api.Block
	kept [3][]int
}

// withRoom is a list of numbers with three more behind it in its spare room.
func withRoom(l []int) []int { return append(slices.Clone(l), 5, -6, 7)[:len(l)] }

func roomyOf(b api.Block) *roomy {
	b.Index, b.Rice, b.Data = withRoom(b.Index), withRoom(b.Rice), withRoom(b.Data)
	h := &roomy{b: b}
	for i, l := range h.lists() {
		h.kept[i] = slices.Clone(l[:len(l)+3])
	}
	return h
}

func (h *roomy) lists() [3][]int { return [3][]int{h.b.Index, h.b.Rice, h.b.Data} }

func (h *roomy) stays(t *testing.T, what string) {
	t.Helper()
	for i, l := range h.lists() {
		if !slices.Equal(l[:len(l)+3], h.kept[i]) {
			t.Fatalf("P10.4: %s changes what was handed in: %v, want %v", what, l[:len(l)+3], h.kept[i])
		}
	}
}

// anyRoomy is of a block that is right, or of a spoiled one.
func anyRoomy(rnd *rand.Rand, n, d int) *roomy {
	b := cloned(anyBlock(rnd, n, d))
	if rnd.Intn(3) == 0 {
		spoil(rnd, &b)
	}
	return roomyOf(b)
}

func TestABlockHandedInStays(t *testing.T) {
	rnd := rand.New(rand.NewSource(18))
	for range 800 {
		n, d := anyCount(rnd), anyDepth(rnd)
		h := anyRoomy(rnd, n, d)
		l, _ := Samples(h.b, n, d)
		h.stays(t, "Samples")
		scribble(l)
		h.stays(t, "writing over an answer of Samples")
		Bits(h.b, n, d)
		h.stays(t, "Bits")
		var w pipe.Writer
		Put(&w, h.b, n, d)
		h.stays(t, "Put")
	}
}

func TestSamplesAndPutKeepNothing(t *testing.T) {
	rnd := rand.New(rand.NewSource(19))
	for range 400 {
		n, d := anyCount(rnd), anyDepth(rnd)
		h := anyRoomy(rnd, n, d)
		var w pipe.Writer
		Put(&w, h.b, n, d)
		bits := bitsOf(&w)
		l, _ := Samples(h.b, n, d)
		kept := slices.Clone(l)
		for _, list := range h.lists() {
			scribble(list)
		}
		if bitsOf(&w) != bits || !slices.Equal(l, kept) {
			t.Fatalf("P10.4: what was handed in is kept: %v, want %v", l, kept)
		}
	}
}

// areNew writes over each list of an answer, in turn: all others stay.
func areNew(t *testing.T, what string, lists ...[]int) {
	t.Helper()
	for i, l := range lists {
		var kept [][]int
		for _, other := range lists {
			kept = append(kept, slices.Clone(other))
		}
		scribble(l)
		for j, other := range lists {
			if j != i && !slices.Equal(other, kept[j]) {
				t.Fatalf("P10.4: %s: two lists share memory: %v, want %v", what, other, kept[j])
			}
		}
	}
}

func TestPlainAndNormalAnswerNewMemory(t *testing.T) {
	rnd := rand.New(rand.NewSource(20))
	for range 800 {
		n, d := anyCount(rnd), anyDepth(rnd)
		l := withRoom(anySamples(rnd, n, d))
		index := withRoom(anyIndex(rnd))
		room, indexRoom := slices.Clone(l[:n+3]), slices.Clone(index[:len(index)+3])
		stays := func(what string) {
			t.Helper()
			if !slices.Equal(l[:n+3], room) || !slices.Equal(index[:len(index)+3], indexRoom) {
				t.Fatalf("P10.4: %s changes what was handed in: %v, %v", what, l, index)
			}
		}
		term, shift := anyTerm(rnd), anyShift(rnd, l, d)
		Shift(l)
		stays("Shift")
		plain, _ := Plain(l, d)
		stays("Plain")
		normal, _ := Normal(l, d, index, term, shift)
		stays("Normal")
		Normal(l, d, index, lag.Term{Lag: 1}, shift)
		stays("Normal with an error")
		wantPlain, wantNormal := cloned(plain), cloned(normal)
		scribbleBlock(plain)
		scribbleBlock(normal)
		stays("writing over an answer")
		plain, _ = Plain(l, d)
		normal, _ = Normal(l, d, index, term, shift)
		if !same(plain, wantPlain) || !same(normal, wantNormal) {
			t.Fatalf("P10.4: two answers share memory: %v, %v", plain, normal)
		}
		scribble(l)
		scribble(index)
		if !same(plain, wantPlain) || !same(normal, wantNormal) {
			t.Fatalf("P10.4: an answer shares memory with what was handed in: %v, %v", plain, normal)
		}
		areNew(t, "Normal", normal.Index, normal.Rice, normal.Data)
	}
}

func scribbleBlock(b api.Block) {
	scribble(b.Index)
	scribble(b.Rice)
	scribble(b.Data)
}

func TestTakeAnswersNewMemory(t *testing.T) {
	rnd := rand.New(rand.NewSource(21))
	for range 800 {
		n, d := anyCount(rnd), anyDepth(rnd)
		want := anyBlock(rnd, n, d)
		var w pipe.Writer
		Put(&w, want, n, d)
		Put(&w, want, n, d)
		bytes := append(w.Bytes(), 0xff, 0x5a)
		kept := slices.Clone(bytes)
		r := pipe.Open(bytes[:len(bytes)-2])
		b, l := Take(r, n, d)
		other, m := Take(r, n, d)
		wantSamples := slices.Clone(m)
		scribbleBlock(b)
		scribble(l)
		if !slices.Equal(bytes, kept) {
			t.Fatal("P10.4: Take changes bytes")
		}
		if !same(other, want) || !slices.Equal(m, wantSamples) {
			t.Fatalf("P10.4: two answers share memory: %v, %v", other, m)
		}
		areNew(t, "Take", other.Index, other.Rice, other.Data, m)
	}
}

func TestAnswersDependOnArguments(t *testing.T) {
	rnd := rand.New(rand.NewSource(22))
	for range 300 {
		n, d := anyCount(rnd), anyDepth(rnd)
		b, other := anyBlock(rnd, n, d), anyBlock(rnd, n, d)
		l := anySamples(rnd, n, d)
		index, term, shift := anyIndex(rnd), anyTerm(rnd), anyShift(rnd, l, d)
		for range 2 {
			checkBlock(t, "asked again", b, n, d)
			checkTake(t, "asked again", bitsWords(b, d), n, d)
			checkPlain(t, "asked again", l, d)
			checkNormal(t, "asked again", l, d, index, term, shift)
			m, _ := Samples(other, n, d)
			scribble(m)
			putBits(other, n, d)
			Take(readerOf(bitsWords(other, d)), n, d-1)
			Plain(anySamples(rnd, n, d), d)
			Normal(anySamples(rnd, n, d), d, steep(), term, 0)
		}
	}
}

// None and an empty list mean the same.
func TestNoneAndEmpty(t *testing.T) {
	for _, none := range [][]int{nil, {}, make([]int, 0, 4)} {
		for _, c := range []struct {
			b    api.Block
			want api.Errno
		}{
			{api.Block{Index: none, Rice: none, Data: none}, api.OK},
			{api.Block{Kind: api.Const, Value: 3, Index: none, Rice: none, Data: none}, api.OK},
			{api.Block{Kind: api.Raw, Index: none, Rice: none, Data: []int{4}}, api.OK},
			{api.Block{Kind: api.Raw, Data: none}, api.ErrForm},
			{api.Block{Kind: api.Normal, Index: none, Rice: []int{0}, Data: []int{4}}, api.OK},
			{api.Block{Kind: api.Normal, Rice: none, Data: none}, api.ErrForm},
			{api.Block{Kind: api.Normal, Rice: none, Data: []int{4}}, api.ErrForm},
			{api.Block{Kind: api.Normal, Rice: []int{0}, Data: none}, api.ErrForm},
		} {
			if e := checkBlock(t, "none", c.b, 1, 8); e != c.want {
				t.Errorf("R5: Samples of %v: %d, want %d", c.b, e, c.want)
			}
		}
		if b, e := Plain(none, 8); !isNothing(b, nil) || e != api.ErrRange {
			t.Errorf("R5: Plain of none: %v, %d", b, e)
		}
		if b, e := Normal(none, 8, none, lag.Term{}, 0); !isNothing(b, nil) || e != api.ErrRange {
			t.Errorf("R5: Normal of none: %v, %d", b, e)
		}
		if b, e := Normal([]int{3}, 8, none, lag.Term{}, 0); b.Kind != api.Normal || len(b.Index) != 0 || e != api.OK {
			t.Errorf("R5: Normal by no indices: %v, %d", b, e)
		}
		if n := Shift(none); n != 24 {
			t.Errorf("R5: Shift of none: %d", n)
		}
	}
}
