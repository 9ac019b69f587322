package weft

import (
	"math"
	"math/big"
	"math/rand"
	"slices"
	"strconv"
	"strings"
	"testing"

	"sackbut/api"
	"sackbut/pipe"
)

// What follows tells the chapter's words over again.

const (
	lowest  = -8388608 // -2^23
	highest = 8388607  // 2^23 - 1
)

func goodWords(w api.Weave, channels int) bool {
	if !w.Some {
		return w.Master == 0 && w.Gains[0] == 0 && w.Gains[1] == 0 && w.Gains[2] == 0
	}
	zeros := 0
	for _, gain := range w.Gains {
		if gain < -16 || gain > 15 {
			return false
		}
		if gain == 0 {
			zeros++
		}
	}
	return zeros < 3 && w.Master >= 0 && w.Master < channels && w.Master < 8
}

// downWords is a number divided by 16, down.
func downWords(n int) int {
	rest := n % 16
	if rest < 0 {
		rest += 16
	}
	return (n - rest) / 16
}

// foreseenWords is what a weave foresees of each place of its master. A 0 at
// each end stands for what isn't there.
func foreseenWords(w api.Weave, master []int) []int {
	padded := append(append([]int{0}, master...), 0)
	var out []int
	for i := 1; i <= len(master); i++ {
		out = append(out, downWords(padded[i-1]*w.Gains[0]+padded[i]*w.Gains[1]+padded[i+1]*w.Gains[2]))
	}
	return out
}

func areSamples(l []int) bool {
	for _, n := range l {
		if n < lowest || n > highest {
			return false
		}
	}
	return true
}

func restWords(w api.Weave, own, master []int) ([]int, api.Errno) {
	if !goodWords(w, 8) {
		return nil, api.ErrForm
	}
	if len(own) != len(master) {
		return nil, api.ErrShape
	}
	if !areSamples(own) || !areSamples(master) {
		return nil, api.ErrValue
	}
	out := []int{}
	for i, n := range foreseenWords(w, master) {
		out = append(out, own[i]-n)
	}
	return out, api.OK
}

// backWords adds in as many bits as a sum has: rests may be any numbers.
func backWords(w api.Weave, rest, master []int, most int) ([]int, api.Errno) {
	if !goodWords(w, 8) {
		return nil, api.ErrForm
	}
	if len(rest) != len(master) {
		return nil, api.ErrShape
	}
	if most < 0 || most > highest {
		return nil, api.ErrRange
	}
	if !areSamples(master) {
		return nil, api.ErrValue
	}
	out := []int{}
	for i, n := range foreseenWords(w, master) {
		sum := big.NewInt(int64(rest[i]))
		sum.Add(sum, big.NewInt(int64(n)))
		if sum.Cmp(big.NewInt(int64(most))) > 0 || sum.Cmp(big.NewInt(int64(-most-1))) < 0 {
			return nil, api.ErrValue
		}
		out = append(out, int(sum.Int64()))
	}
	return out, api.OK
}

// sumWords is the sum of the rest's sizes by the Gains 0, g, 0.
func sumWords(own, master []int, g int) int {
	sum := 0
	for i, n := range own {
		n -= downWords(master[i] * g)
		if n < 0 {
			n = -n
		}
		sum += n
	}
	return sum
}

// bestWords is the Gains that leave the least, and whether others leave as
// little. It goes from the greatest g down to none.
func bestWords(own, master []int) (best [3]int, tie bool) {
	least := math.MaxInt
	for g := 15; g >= 0; g-- {
		sum := sumWords(own, master, g)
		tie = sum == least || tie && sum > least
		if sum <= least {
			best, least = [3]int{0, g, 0}, sum
		}
	}
	return best, tie
}

// binary is so many bits of a number as a text; of one below 0 they are those
// of two's complement.
func binary(n, count int) string {
	if n < 0 {
		n += 1 << count
	}
	text := strconv.FormatInt(int64(n), 2)
	return strings.Repeat("0", count-len(text)) + text
}

// bitsWords is a good weave's bits.
func bitsWords(w api.Weave) string {
	if !w.Some {
		return "0"
	}
	return "1" + binary(w.Master, 3) + binary(w.Gains[0], 5) + binary(w.Gains[1], 5) + binary(w.Gains[2], 5)
}

// takeWords is the weave that bits begin with, the bits behind it, and what a
// reader of them fails with.
func takeWords(bits string, channels int) (api.Weave, string, api.Errno) {
	if strings.HasPrefix(bits, "0") {
		return api.Weave{}, bits[1:], api.OK
	}
	if len(bits) < 1+3+3*5 {
		return api.Weave{}, "", api.ErrEnd
	}
	w := api.Weave{Some: true, Master: numberOf(bits[1:4])}
	for i := range w.Gains {
		field := bits[4+5*i : 9+5*i]
		w.Gains[i] = numberOf(field[1:]) - 16*numberOf(field[:1])
	}
	if !goodWords(w, channels) {
		return api.Weave{}, "", api.ErrForm
	}
	return w, bits[19:], api.OK
}

func numberOf(bits string) int {
	n, _ := strconv.ParseInt(bits, 2, 64)
	return int(n)
}

// readerBehind opens bits as a text, so many bits 1 ahead of them and as many
// bits 1 behind as fill a byte; the bits ahead are taken.
func readerBehind(ahead int, bits string) *pipe.Reader {
	text := strings.Repeat("1", ahead) + bits
	text += strings.Repeat("1", (8-len(text)%8)%8)
	b := make([]byte, len(text)/8)
	for i, letter := range text {
		b[i/8] = 2*b[i/8] + byte(letter-'0')
	}
	r := pipe.Open(b)
	for range ahead {
		r.Take(1)
	}
	return r
}

// readerOf opens bits that end with the last byte.
func readerOf(bits string) *pipe.Reader { return readerBehind((8-len(bits)%8)%8, bits) }

// bitsOf is a writer's bits as a text.
func bitsOf(p *pipe.Writer) string {
	var text strings.Builder
	for _, x := range p.Bytes() {
		text.WriteString(binary(int(x), 8))
	}
	return text.String()[:p.Len()]
}

// some is a weave that is some.
func some(master, ahead, here, next int) api.Weave {
	return api.Weave{Some: true, Master: master, Gains: [3]int{ahead, here, next}}
}

// anyWeave gives good weaves: none, such as have Gains at the ends or of 0, and
// others.
func anyWeave(rnd *rand.Rand) api.Weave {
	if rnd.Intn(6) == 0 {
		return api.Weave{}
	}
	w := api.Weave{Some: true, Master: rnd.Intn(8)}
	for w.Gains == [3]int{} {
		for i := range w.Gains {
			w.Gains[i] = []int{-16, 15, 0, rnd.Intn(32) - 16, rnd.Intn(32) - 16}[rnd.Intn(5)]
		}
	}
	return w
}

// noWeaves are those that are good among no number of channels.
func noWeaves() []api.Weave {
	out := []api.Weave{
		{Master: 1}, {Master: -1}, {Master: 8}, {Master: 1 << 32}, {Master: math.MinInt}, {Master: math.MaxInt},
		{Gains: [3]int{0, 8, 0}}, {Master: 1, Gains: [3]int{0, 8, 0}},
		some(0, 0, 0, 0), some(7, 0, 0, 0), some(-1, 0, 0, 0), some(8, 0, 0, 0),
		some(-1, 0, 8, 0), some(8, 0, 8, 0), some(9, 0, 8, 0), some(-8, 0, 8, 0),
		some(1<<32, 0, 8, 0), some(math.MinInt, 0, 8, 0), some(math.MaxInt, 0, 8, 0),
	}
	for place := range 3 {
		for _, gain := range []int{1, -1, 15, -16, 16, 1 << 32, math.MinInt, math.MaxInt} {
			w := api.Weave{}
			w.Gains[place] = gain
			out = append(out, w)
		}
		for _, gain := range []int{16, -17, 17, 31, 32, -32, 1 << 32, -1 << 32, 1<<32 + 1, math.MinInt, math.MaxInt} {
			w := some(0, 1, 1, 1)
			w.Gains[place] = gain
			out = append(out, w)
			w.Gains = [3]int{}
			w.Gains[place] = gain
			out = append(out, w)
		}
	}
	return out
}

// noSamples are numbers below and above all samples.
func noSamples() []int {
	return []int{lowest - 1, highest + 1, -1 << 24, 1 << 24, 1 << 32, -1 << 32, math.MinInt, math.MinInt + 1, math.MaxInt}
}

// anySamples are so many: at the ends, around 0, and in between.
func anySamples(rnd *rand.Rand, count int) []int {
	l := make([]int, count)
	for i := range l {
		switch rnd.Intn(5) {
		case 0:
			l[i] = highest
		case 1:
			l[i] = lowest
		case 2:
			l[i] = rnd.Intn(37) - 18
		default:
			l[i] = rnd.Intn(highest-lowest+1) + lowest
		}
	}
	return l
}

// quiet are so many of a size at most.
func quiet(rnd *rand.Rand, count, most int) []int {
	l := make([]int, count)
	for i := range l {
		l[i] = rnd.Intn(2*most+1) - most
	}
	return l
}

// with is a list that has this number at a place.
func with(l []int, place, n int) []int {
	out := slices.Clone(l)
	out[place] = n
	return out
}

func TestTheLimitsAreTheChapters(t *testing.T) {
	if mostSample != highest || -mostSample-1 != lowest || api.MaxChannels != 8 ||
		leastGain != -16 || mostGain != 15 || 1<<partBits != 16 || someBits != 1 || masterBits != 3 || gainBits != 5 {
		t.Error("P11.1: the limits, or the numbers of bits, are others than the chapter's")
	}
}
