package slide

import (
	"math/rand"
	"slices"
	"strconv"
	"strings"

	"sackbut/api"
	"sackbut/pipe"
)

const (
	least    = -1 << 33
	greatest = 1<<33 - 1
)

// textOf tells the bits of bytes as a text of 0 and 1.
func textOf(b []byte) string {
	var text strings.Builder
	for _, x := range b {
		text.WriteString(binary(int(x), 8))
	}
	return text.String()
}

// bytesOf lays a text of 0 and 1 into bytes, filled up with 0.
func bytesOf(text string) []byte {
	b := make([]byte, (len(text)+7)/8)
	for k, x := range text {
		b[k/8] |= byte(x-'0') << (7 - k%8)
	}
	return b
}

// binary writes a number with so many bits.
func binary(v, n int) string {
	if n == 0 {
		return ""
	}
	s := strconv.FormatInt(int64(v), 2)
	return strings.Repeat("0", n-len(s)) + s
}

func zeros(n int) string { return strings.Repeat("0", n) }

// codeOf is a number's code by chapter 2's words, as a text of bits.
func codeOf(n, k int) string {
	z := 2 * n
	if n < 0 {
		z = -2*n - 1
	}
	power := 1 << k
	if z/power < 24 {
		return zeros(z/power) + "1" + binary(z%power, k)
	}
	return zeros(24) + "1" + binary(z, 34)
}

// wordsOf is a list's bits by the chapter's words, as a text.
func wordsOf(l []int, p Parts) string {
	var text strings.Builder
	text.WriteString(binary(p.P, 2))
	count := 1 << p.P
	for i, n := range l {
		part := i * count / len(l)
		if i*count%len(l) == 0 {
			text.WriteString(binary(p.K[part], 5))
		}
		text.WriteString(codeOf(n, p.K[part]))
	}
	return text.String()
}

// takeWords tells by the chapter's words what stands in bits: a list and its
// parts, the bits behind them, or how taking them fails.
func takeWords(bits string, n int) ([]int, Parts, string, api.Errno) {
	none := Parts{}
	if n < 1 || n > 1024 {
		return nil, none, "", api.ErrRange
	}
	if len(bits) < 2 {
		return nil, none, "", api.ErrEnd
	}
	p := Parts{P: number(bits[:2])}
	bits = bits[2:]
	count := []int{1, 2, 4, 8}[p.P]
	if n%count != 0 {
		return nil, none, "", api.ErrForm
	}
	var l []int
	for range count {
		if len(bits) < 5 {
			return nil, none, "", api.ErrEnd
		}
		k := number(bits[:5])
		p.K, bits = append(p.K, k), bits[5:]
		if k > 24 {
			return nil, none, "", api.ErrRange
		}
		for range n / count {
			x, rest, e := takeCode(bits, k)
			if e != api.OK {
				return nil, none, "", e
			}
			l, bits = append(l, x), rest
		}
	}
	return l, p, bits, api.OK
}

// takeCode tells by chapter 2's words the number at the beginning of bits.
func takeCode(bits string, k int) (int, string, api.Errno) {
	q := strings.Index(bits, "1")
	switch {
	case q > 24 || q < 0 && len(bits) > 24:
		return 0, "", api.ErrRange
	case q < 0:
		return 0, "", api.ErrEnd
	}
	bits = bits[q+1:]
	width := k
	if q == 24 {
		width = 34
	}
	if len(bits) < width {
		return 0, "", api.ErrEnd
	}
	z := number(bits[:width])
	if q == 24 && z/(1<<k) < 24 {
		return 0, "", api.ErrForm
	}
	if q < 24 {
		z += q * (1 << k)
	}
	if z%2 == 1 {
		return -(z + 1) / 2, bits[width:], api.OK
	}
	return z / 2, bits[width:], api.OK
}

func number(bits string) int {
	n, _ := strconv.ParseInt("0"+bits, 2, 64)
	return int(n)
}

// same tells whether parts are the same; none and an empty list are.
func same(a, b Parts) bool { return a.P == b.P && slices.Equal(a.K, b.K) }

// isNothing tells whether there is neither a list nor parts.
func isNothing(l []int, p Parts) bool { return len(l) == 0 && same(p, Parts{}) }

// many is a list of so many times one number.
func many(count, n int) []int { return slices.Repeat([]int{n}, count) }

// anyNumber gives small and great numbers as often.
func anyNumber(rnd *rand.Rand) int {
	n := rnd.Intn(1 << rnd.Intn(34))
	if rnd.Intn(2) == 0 {
		return -n - 1
	}
	return n
}

// anyList gives lists that are short more often than long, of numbers that
// are alike for a while.
func anyList(rnd *rand.Rand) []int {
	l, bits := make([]int, 1+rnd.Intn(1<<rnd.Intn(11))), 0
	if rnd.Intn(2) == 0 {
		l = make([]int, 8*(1+rnd.Intn(1<<rnd.Intn(8))))
	}
	for i := range l {
		if i*8%len(l) < 8 && rnd.Intn(2) == 0 {
			bits = rnd.Intn(34)
		}
		l[i] = rnd.Intn(1<<bits) - 1<<bits/2
		if rnd.Intn(20) == 0 {
			l[i] = anyNumber(rnd)
		}
	}
	return l
}

// powersOf gives each P that a list of so many numbers may have.
func powersOf(n int) []int {
	var powers []int
	for p, count := range []int{1, 2, 4, 8} {
		if n%count == 0 {
			powers = append(powers, p)
		}
	}
	return powers
}

// anyParts gives parts in which a list of so many numbers may be told.
func anyParts(rnd *rand.Rand, n int) Parts {
	powers := powersOf(n)
	p := Parts{P: powers[rnd.Intn(len(powers))]}
	for range 1 << p.P {
		p.K = append(p.K, rnd.Intn(25))
	}
	return p
}

// readerBehind opens a reader at bits that stand behind others.
func readerBehind(ahead int, bits string) *pipe.Reader {
	r := pipe.Open(bytesOf(strings.Repeat("1", ahead) + bits))
	r.Take(ahead)
	return r
}
