package rank

import (
	"math"
	"math/rand"
	"slices"
	"strconv"
	"strings"
	"testing"

	"sackbut/api"
	"sackbut/pipe"
)

// What follows tells the chapter's words over again.

// ordersOf are all orders of so many channels, the first one first, number by
// number.
func ordersOf(n int) [][]int { return behind(nil, n) }

// behind are those that begin with some channels.
func behind(first []int, n int) [][]int {
	if len(first) == n {
		return [][]int{slices.Clone(first)}
	}
	var out [][]int
	for channel := range n {
		if !slices.Contains(first, channel) {
			out = append(out, behind(append(slices.Clone(first), channel), n)...)
		}
	}
	return out
}

// goodWords counts how often each number stands.
func goodWords(l []int) bool {
	for n := range l {
		count := 0
		for _, channel := range l {
			if channel == n {
				count++
			}
		}
		if count != 1 {
			return false
		}
	}
	return len(l) >= 1 && len(l) <= 8
}

// marksWords looks, for each place, at all channels that are less.
func marksWords(l []int) []int {
	out := []int{}
	for place, channel := range l {
		mark := 0
		for less := range channel {
			if slices.Index(l, less) > place {
				mark++
			}
		}
		out = append(out, mark)
	}
	return out
}

// areMarksWords tells whether there is an order with these.
func areMarksWords(marks []int) bool {
	for place, mark := range marks {
		left := len(marks) - place
		if mark < 0 || mark >= left {
			return false
		}
	}
	return len(marks) >= 1 && len(marks) <= 8
}

// ofWords makes the order from its end: one more channel, ahead of the others,
// makes those greater that aren't less than it.
func ofWords(marks []int) ([]int, api.Errno) {
	if !areMarksWords(marks) {
		return nil, api.ErrOrder
	}
	var out []int
	for place := len(marks) - 1; place >= 0; place-- {
		for i := range out {
			if out[i] >= marks[place] {
				out[i]++
			}
		}
		out = append([]int{marks[place]}, out...)
	}
	return out, api.OK
}

// binary is so many bits of a number as a text.
func binary(n, count int) string {
	text := strconv.FormatInt(int64(n), 2)
	text = strings.Repeat("0", max(count-len(text), 0)) + text
	return text[len(text)-count:]
}

// widthWords is how many bits a mark has where so many are left.
func widthWords(left int) int { return len(strconv.FormatInt(int64(left-1), 2)) }

// bitsWords is an order's bits.
func bitsWords(l []int) string {
	text := ""
	for place, mark := range marksWords(l)[:len(l)-1] {
		text += binary(mark, widthWords(len(l)-place))
	}
	return text
}

// countWords is how many bits an order of n channels has.
func countWords(n int) int { return []int{0, 0, 1, 3, 5, 8, 11, 14, 17}[n] }

// takeWords is the order that bits begin with, the bits behind it, and what a
// reader of them fails with.
func takeWords(bits string, n int) ([]int, string, api.Errno) {
	if n < 1 || n > 8 {
		return nil, "", api.ErrRange
	}
	if len(bits) < countWords(n) {
		return nil, "", api.ErrEnd
	}
	var marks []int
	for left := n; left > 1; left-- {
		mark, _ := strconv.ParseInt(bits[:widthWords(left)], 2, 64)
		marks = append(marks, int(mark))
		bits = bits[widthWords(left):]
	}
	l, e := ofWords(append(marks, 0))
	if e != api.OK {
		bits = ""
	}
	return l, bits, e
}

func placesWords(l []int) []int {
	out := []int{}
	for channel := range l {
		out = append(out, slices.Index(l, channel))
	}
	return out
}

func areMastersWords(masters []int) bool {
	for _, master := range masters {
		if master < -1 || master > len(masters)-1 {
			return false
		}
	}
	return len(masters) >= 1 && len(masters) <= 8
}

// goesWords looks for each channel's master ahead of it.
func goesWords(l, masters []int) bool {
	if !goodWords(l) || len(l) != len(masters) || !areMastersWords(masters) {
		return false
	}
	for place, channel := range l {
		if masters[channel] != -1 && !slices.Contains(l[:place], masters[channel]) {
			return false
		}
	}
	return true
}

// sortedWords is the first one that goes, of all orders.
func sortedWords(masters []int, orders [][]int) ([]int, api.Errno) {
	if !areMastersWords(masters) {
		return nil, api.ErrOrder
	}
	for _, l := range orders {
		if goesWords(l, masters) {
			return l, api.OK
		}
	}
	return nil, api.ErrOrder
}

// readerBehind opens bits as a text, so many bits 1 ahead of them and as many
// bits 1 behind as fill a byte; the bits ahead are taken.
func readerBehind(ahead int, bits string) *pipe.Reader {
	text := strings.Repeat("1", ahead) + bits
	text += strings.Repeat("1", (8-len(text)%8)%8)
	b := make([]byte, len(text)/8)
	for i, letter := range text {
		b[i/8] = 2*b[i/8] + byte(letter-'0')
	}
	r := pipe.Open(b)
	for range ahead {
		r.Take(1)
	}
	return r
}

// readerOf opens bits that end with the last byte.
func readerOf(bits string) *pipe.Reader { return readerBehind((8-len(bits)%8)%8, bits) }

// bitsOf is a writer's bits as a text.
func bitsOf(w *pipe.Writer) string {
	var text strings.Builder
	for _, x := range w.Bytes() {
		text.WriteString(binary(int(x), 8))
	}
	return text.String()[:w.Len()]
}

// outside are numbers below and above all channels' places, marks and numbers
// of channels.
func outside() []int {
	return []int{-1, -2, 9, 10, 16, 1 << 32, -1 << 32, 1<<32 + 1, math.MinInt, math.MinInt + 1, math.MaxInt}
}

// noOrders are lists that are none.
func noOrders() [][]int {
	out := [][]int{nil, {}, {1}, {0, 0}, {1, 1}, {1, 2}, {0, 2, 3}, {3, 2, 1}, {0, 1, 1}, {2, 2, 2, 2},
		{0, 1, 2, 3, 4, 5, 6, 7, 8}, {8, 7, 6, 5, 4, 3, 2, 1, 0}, {0, 1, 2, 3, 4, 5, 6, 7, 7}, rising(100)}
	for n := 1; n <= 8; n++ {
		for place := range n {
			out = append(out, with(rising(n), place, n), with(rising(n), place, (place+1)%(n+1)))
			for _, wrong := range outside() {
				out = append(out, with(rising(n), place, wrong))
			}
		}
	}
	return out
}

// with is a list that has this number at a place.
func with(l []int, place, n int) []int {
	out := slices.Clone(l)
	out[place] = n
	return out
}

// listsOf are all lists of so many numbers from one to another.
func listsOf(count, least, most int) [][]int {
	out := [][]int{nil}
	for range count {
		var longer [][]int
		for _, l := range out {
			for n := least; n <= most; n++ {
				longer = append(longer, append(slices.Clone(l), n))
			}
		}
		out = longer
	}
	return out
}

// anyMasters are such as an order goes with.
func anyMasters(rnd *rand.Rand, n int) []int {
	l, out := rnd.Perm(n), make([]int, n)
	for place, channel := range l {
		out[channel] = -1
		if place > 0 && rnd.Intn(4) > 0 {
			out[channel] = l[rnd.Intn(place)]
		}
	}
	return out
}

func TestTheLimitsAreTheChapters(t *testing.T) {
	if api.MaxChannels != 8 || none != -1 || api.ErrOrder != 11 || api.ErrRange != 1 || api.ErrEnd != 3 {
		t.Error("P12.1: the limits, or the errors' numbers, are others than the chapter's")
	}
}

// What is told over again here agrees with the chapter's example, and with
// itself.
func TestTheWordsAgree(t *testing.T) {
	if l := []int{2, 0, 1}; !slices.Equal(marksWords(l), []int{2, 0, 0}) || bitsWords(l) != "100" {
		t.Errorf("P12.1: by the words the example has the marks %v, the bits %s", marksWords(l), bitsWords(l))
	}
	for n, count := range []int{1, 1, 2, 6, 24, 120, 720, 5040, 40320} {
		orders := ordersOf(n)
		if len(orders) != count || !slices.IsSortedFunc(orders, slices.Compare) {
			t.Errorf("P12.1: by the words there are %d orders of %d", len(orders), n)
		}
	}
}
