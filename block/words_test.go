package block

import (
	"fmt"
	"math"
	"math/rand"
	"slices"
	"strings"
	"testing"

	"sackbut/api"
	"sackbut/lag"
	"sackbut/pipe"
)

// The chapter's words told over again.

func isOutsideWords(n, d int) bool { return n < 1 || n > 1024 || d < 8 || d > 26 }

// areSamples tells whether numbers are samples of a depth.
func areSamples(l []int, d int) bool {
	half := int(math.Pow(2, float64(d-1)))
	for _, n := range l {
		if n >= half || n < -half {
			return false
		}
	}
	return true
}

// has tells which of a block's fields its Kind has.
func has(kind int, field string) bool {
	return strings.Contains(map[int]string{
		0: "",
		1: "Value",
		2: "Shift Index Lag Gain Part Rice Data",
		3: "Data",
	}[kind], field)
}

// hasNothingElse tells whether a block has nothing that its Kind hasn't.
func hasNothingElse(b api.Block) bool {
	for field, isThere := range map[string]bool{
		"Value": b.Value != 0,
		"Shift": b.Shift != 0,
		"Index": len(b.Index) != 0,
		"Lag":   b.Lag != 0,
		"Gain":  b.Gain != 0,
		"Part":  b.Part != 0,
		"Rice":  len(b.Rice) != 0,
		"Data":  len(b.Data) != 0,
	} {
		if isThere && !has(b.Kind, field) {
			return false
		}
	}
	return true
}

func isFormedWords(b api.Block, n, d int) bool {
	if b.Kind == 3 {
		return len(b.Data) == n
	}
	if b.Kind != 2 {
		return true
	}
	return b.Shift >= 0 && b.Shift <= d-1 && isIndexWords(b.Index) && isTermWords(b.Lag, b.Gain) &&
		len(b.Data) == n && isTellable(b.Data, b.Part, b.Rice)
}

// samplesWords are a block's samples.
func samplesWords(b api.Block, n, d int) ([]int, api.Errno) {
	if isOutsideWords(n, d) {
		return nil, api.ErrRange
	}
	if b.Kind < 0 || b.Kind > 3 {
		return nil, api.ErrKind
	}
	if !hasNothingElse(b) || !isFormedWords(b, n, d) {
		return nil, api.ErrForm
	}
	l := make([]int, n)
	isRight := true
	for i := range l {
		l[i] = b.Value
	}
	if b.Kind == 3 {
		l = b.Data
	}
	if b.Kind == 2 {
		residuals := onWords(lag.Term{Lag: b.Lag, Gain: b.Gain}, b.Data)
		l, isRight = samplesBackWords(b.Index, residuals, 1<<(d-1)-1)
		l = times(l, 1<<b.Shift)
	}
	if !isRight || !areSamples(l, d) {
		return nil, api.ErrValue
	}
	return l, api.OK
}

// times is each number so many times.
func times(l []int, many int) []int {
	var out []int
	for _, n := range l {
		out = append(out, n*many)
	}
	return out
}

// bitsWords is the bits of a block that is right.
func bitsWords(b api.Block, d int) string {
	text := binary(b.Kind, 2)
	switch b.Kind {
	case 1:
		text += signed(b.Value, d)
	case 3:
		text += eachSigned(b.Data, d)
	case 2:
		text += binary(b.Shift, 5) + binary(len(b.Index), 5) + eachSigned(b.Index, 7)
		if b.Lag == 0 {
			text += "0"
		} else {
			text += "1" + binary(b.Lag, 8) + binary(b.Gain, 4)
		}
		text += partsWords(b.Data, b.Part, b.Rice)
	}
	return text
}

func eachSigned(l []int, width int) string {
	var text strings.Builder
	for _, n := range l {
		text.WriteString(signed(n, width))
	}
	return text.String()
}

// takeWords is the block that comes next in bits, its samples, the bits behind
// it, or how taking it fails.
func takeWords(bits string, n, d int) (api.Block, []int, string, api.Errno) {
	none := api.Block{}
	if isOutsideWords(n, d) {
		return none, nil, "", api.ErrRange
	}
	c := &cursor{bits: bits}
	b := api.Block{Kind: c.take(2)}
	switch b.Kind {
	case 1:
		b.Value = c.takeSigned(d)
	case 2:
		c.takeNormal(&b, n)
	case 3:
		for range n {
			b.Data = append(b.Data, c.takeSigned(d))
		}
	}
	if c.e != api.OK {
		return none, nil, "", c.e
	}
	l, e := samplesWords(b, n, d)
	if e != api.OK {
		return none, nil, "", e
	}
	return b, l, c.bits, api.OK
}

func (c *cursor) takeNormal(b *api.Block, n int) {
	b.Shift = c.take(5)
	count := c.take(5)
	if count > 16 {
		c.fail(api.ErrForm)
	}
	for range count {
		b.Index = append(b.Index, c.takeSigned(7))
	}
	if c.take(1) == 1 {
		b.Lag = c.take(8)
		b.Gain = c.take(4)
		if b.Lag == 0 || b.Gain == 0 {
			c.fail(api.ErrForm)
		}
	}
	b.Data, b.Part, b.Rice = c.takeParts(n)
}

func plainWords(l []int, d int) (api.Block, api.Errno) {
	if isOutsideWords(len(l), d) {
		return api.Block{}, api.ErrRange
	}
	if !areSamples(l, d) {
		return api.Block{}, api.ErrValue
	}
	least, greatest := slices.Min(l), slices.Max(l)
	if least == 0 && greatest == 0 {
		return api.Block{}, api.OK
	}
	if least == greatest {
		return api.Block{Kind: 1, Value: least}, api.OK
	}
	return api.Block{Kind: 3, Data: l}, api.OK
}

func areMultiples(l []int, of int) bool {
	for _, n := range l {
		if n%of != 0 {
			return false
		}
	}
	return true
}

func normalWords(l []int, d int, index []int, t lag.Term, shift int) (api.Block, api.Errno) {
	if _, e := plainWords(l, d); e != api.OK {
		return api.Block{}, e
	}
	if shift < 0 || shift > d-1 || !areMultiples(l, 1<<shift) || !isIndexWords(index) || !isTermWords(t.Lag, t.Gain) {
		return api.Block{}, api.ErrForm
	}
	var divided []int
	for _, n := range l {
		divided = append(divided, n/(1<<shift))
	}
	// Chapter 8's numbers have no test of their own: where one is outside,
	// the first such one's rest is outside chapter 3's.
	data := offWords(t, residualsWords(index, divided))
	if !areResiduals(data) {
		return api.Block{}, api.ErrValue
	}
	part, rice := bestPartsWords(data)
	return api.Block{Kind: 2, Shift: shift, Index: index, Lag: t.Lag, Gain: t.Gain, Part: part, Rice: rice, Data: data}, api.OK
}

func shiftWords(l []int) int {
	n := 0
	for n < 24 && areMultiples(l, 1<<(n+1)) {
		n++
	}
	return n
}

// same tells whether two blocks are the same; none and an empty list are.
func same(a, b api.Block) bool { return fmt.Sprint(a) == fmt.Sprint(b) }

func isNothing(b api.Block, l []int) bool { return same(b, api.Block{}) && len(l) == 0 }

// readerBehind opens bits as a text, so many bits 1 ahead of them and as many
// bits 1 behind as fill a byte; the bits ahead are taken.
func readerBehind(ahead int, bits string) *pipe.Reader {
	text := strings.Repeat("1", ahead) + bits
	text += strings.Repeat("1", (8-len(text)%8)%8)
	b := make([]byte, len(text)/8)
	for i, letter := range text {
		b[i/8] = 2*b[i/8] + byte(letter-'0')
	}
	r := pipe.Open(b)
	r.Take(ahead)
	return r
}

// readerOf opens bits that end with the last byte.
func readerOf(bits string) *pipe.Reader { return readerBehind((8-len(bits)%8)%8, bits) }

// bitsOf is a writer's bits as a text.
func bitsOf(w *pipe.Writer) string {
	var text strings.Builder
	for _, x := range w.Bytes() {
		text.WriteString(binary(int(x), 8))
	}
	return text.String()[:w.Len()]
}

// checkBlock holds all that is told of a block against the words.
func checkBlock(t *testing.T, what string, b api.Block, n, d int) api.Errno {
	t.Helper()
	want, wantErr := samplesWords(b, n, d)
	if l, e := Samples(b, n, d); !slices.Equal(l, want) || e != wantErr {
		t.Fatalf("P10.1: %s: Samples of %v, n %d, d %d: %v, %d, want %v, %d", what, b, n, d, l, e, want, wantErr)
	}
	text := ""
	if wantErr == api.OK {
		text = bitsWords(b, d)
	}
	var w pipe.Writer
	w.Put(5, 3)
	if put := Put(&w, b, n, d); put != (wantErr == api.OK) || bitsOf(&w) != "101"+text {
		t.Fatalf("P10.1: %s: Put of %v, n %d, d %d: %t, bits %s, want 101%s", what, b, n, d, put, bitsOf(&w), text)
	}
	if bits := Bits(b, n, d); bits != len(text) {
		t.Fatalf("P10.1: %s: Bits of %v, n %d, d %d: %d, want %d", what, b, n, d, bits, len(text))
	}
	return wantErr
}

// checkTake holds Take of bits against the words; the bits end with a byte.
func checkTake(t *testing.T, what, bits string, n, d int) api.Errno {
	t.Helper()
	want, wantSamples, rest, wantErr := takeWords(bits, n, d)
	r := readerOf(bits)
	b, l := Take(r, n, d)
	if !same(b, want) || !slices.Equal(l, wantSamples) || r.Fail() != wantErr {
		t.Fatalf("P10.1: %s: Take of %s, n %d, d %d: %v, %v, fails with %d, want %v, %v, %d", what, bits, n, d, b, l, r.Fail(), want, wantSamples, wantErr)
	}
	if wantErr != api.OK {
		checkNothing(t, what+", again", r, 1, 8, wantErr)
	} else if r.Left() != len(rest) {
		t.Fatalf("P10.1: %s: Take of %s, n %d, d %d leaves %d bits, want %d", what, bits, n, d, r.Left(), len(rest))
	}
	return wantErr
}

// checkNothing: there are neither a block nor samples, and the reader fails so.
func checkNothing(t *testing.T, what string, r *pipe.Reader, n, d int, want api.Errno) {
	t.Helper()
	if b, l := Take(r, n, d); !isNothing(b, l) || r.Fail() != want {
		t.Fatalf("P10.1: %s: Take, n %d, d %d: %v, %v, fails with %d, want nothing, %d", what, n, d, b, l, r.Fail(), want)
	}
}

func checkPlain(t *testing.T, what string, l []int, d int) api.Errno {
	t.Helper()
	want, wantErr := plainWords(l, d)
	if b, e := Plain(l, d); !same(b, want) || e != wantErr {
		t.Fatalf("P10.1: %s: Plain of %v, d %d: %v, %d, want %v, %d", what, l, d, b, e, want, wantErr)
	}
	return wantErr
}

func checkNormal(t *testing.T, what string, l []int, d int, index []int, term lag.Term, shift int) (api.Block, api.Errno) {
	t.Helper()
	want, wantErr := normalWords(l, d, index, term, shift)
	if b, e := Normal(l, d, index, term, shift); !same(b, want) || e != wantErr {
		t.Fatalf("P10.1: %s: Normal of %v, d %d, index %v, term %v, shift %d: %v, %d, want %v, %d", what, l, d, index, term, shift, b, e, want, wantErr)
	}
	return want, wantErr
}

// countsOutside and depthsOutside are such as no block is of.
func countsOutside() []int {
	return []int{0, -1, -1024, math.MinInt, 1025, 2048, 1 << 32, 1<<32 + 1, 1 << 62, math.MaxInt}
}

func depthsOutside() []int {
	return []int{7, 27, 0, 1, -1, -8, math.MinInt, 28, 32, 63, 64, 65, 1<<32 + 8, math.MaxInt}
}

// anyCount is of samples: few more often than many.
func anyCount(rnd *rand.Rand) int { return 1 + rnd.Intn(1<<rnd.Intn(8)) }

// anyDepth is one at an end more often than another one.
func anyDepth(rnd *rand.Rand) int {
	return []int{8, 26, 8 + rnd.Intn(19), 8 + rnd.Intn(19)}[rnd.Intn(4)]
}

// anySamples are of a depth: any, both ends, such as go slowly, or that come
// again; multiples of a power of two.
func anySamples(rnd *rand.Rand, n, d int) []int {
	half := 1 << (d - 1)
	l := make([]int, n)
	at, step, way, power := 0, 1+rnd.Intn(half/8), rnd.Intn(6), 1<<(rnd.Intn(d)*rnd.Intn(2))
	for i := range l {
		switch way {
		case 0:
			at = rnd.Intn(2*half) - half
		case 1:
			at = rnd.Intn(2)*(2*half-1) - half
		case 2:
			at = int(float64(half-1) * math.Sin(float64(i)/5))
		case 3:
			at = rnd.Intn(step) * (i % 7 / 4)
		default:
			at = min(max(at+rnd.Intn(2*step)-step, -half), half-1)
		}
		l[i] = floor(at, power) * power
	}
	return l
}

// anyIndex is an index list: such as foresee what goes slowly, and any.
func anyIndex(rnd *rand.Rand) []int {
	first := []int{-64, -64, 0, 12, -3}
	if rnd.Intn(2) == 0 {
		return first[:rnd.Intn(6)]
	}
	index := make([]int, rnd.Intn(17))
	for i := range index {
		index[i] = rnd.Intn(128) - 64
	}
	return index
}

func anyTerm(rnd *rand.Rand) lag.Term {
	switch rnd.Intn(4) {
	case 0:
		return lag.Term{Lag: 1 + rnd.Intn(255), Gain: 1 + rnd.Intn(15)}
	case 1:
		return lag.Term{Lag: 1 + rnd.Intn(9), Gain: 1 + rnd.Intn(15)}
	}
	return lag.Term{}
}

// anyShift is one that samples may have.
func anyShift(rnd *rand.Rand, l []int, d int) int {
	return rnd.Intn(2) * min(rnd.Intn(1+shiftWords(l)), d-1)
}

// anyNormal is a Normal that is right, told in any parts.
func anyNormal(rnd *rand.Rand, n, d int) api.Block {
	for {
		l := anySamples(rnd, n, d)
		b, e := normalWords(l, d, anyIndex(rnd), anyTerm(rnd), anyShift(rnd, l, d))
		if e != api.OK {
			continue
		}
		for b.Part = rnd.Intn(4); n%(1<<b.Part) != 0; b.Part = rnd.Intn(4) {
		}
		b.Rice = nil
		for range 1 << b.Part {
			b.Rice = append(b.Rice, rnd.Intn(25))
		}
		return b
	}
}

// anyBlock is one that is right, of each kind.
func anyBlock(rnd *rand.Rand, n, d int) api.Block {
	half := 1 << (d - 1)
	switch rnd.Intn(6) {
	case 0:
		return api.Block{}
	case 1:
		return api.Block{Kind: 1, Value: []int{0, -half, half - 1, rnd.Intn(2*half) - half}[rnd.Intn(4)]}
	case 2:
		return api.Block{Kind: 3, Data: anySamples(rnd, n, d)}
	}
	return anyNormal(rnd, n, d)
}

// cloned is a block that shares nothing with another one.
func cloned(b api.Block) api.Block {
	b.Index, b.Rice, b.Data = slices.Clone(b.Index), slices.Clone(b.Rice), slices.Clone(b.Data)
	return b
}

func TestTheLimitsAreTheChapters(t *testing.T) {
	if api.MaxFrame != 1024 || api.MaxOrder != 16 || api.MaxLag != 255 || api.MaxGain != 15 ||
		api.Zero != 0 || api.Const != 1 || api.Normal != 2 || api.Raw != 3 {
		t.Error("P10.1: the limits, or the kinds' numbers, are others than the chapter's")
	}
}
