package block

import (
	"strconv"
	"strings"

	"sackbut/api"
	"sackbut/lag"
)

// What a block leans on of the chapters below it (2, 3, 6, 7 and 8), told over
// again, so that no mistake of a call below is hidden by the same call here.
// Nothing wraps round: coefficients are at most 2^30, samples 2^26, and there
// are at most 16 products.

// floor is a quotient, down.
func floor(n, by int) int {
	rest := n % by
	if rest < 0 {
		rest += by
	}
	return (n - rest) / by
}

// coefsWords are an index list's coefficients, by chapter 6.
func coefsWords(index []int) []int {
	var a []int
	for m, i := range index {
		u := i + 64
		k := 256 * i
		if m == 0 {
			k = 2*u*u - 16384
		} else if m == 1 {
			k = 16384 - 2*u*u
		}
		next := make([]int, m+1)
		for j := range m {
			next[j] = a[j] + floor(k*a[m-1-j]+8192, 16384)
		}
		next[m] = k
		a = next
	}
	return a
}

// foreseenWords is what is foreseen of a place, by chapter 7.
func foreseenWords(coefs [][]int, samples []int, place int) int {
	sum := 0
	for j, a := range coefs[min(place, len(coefs)-1)] {
		sum += a * samples[place-1-j]
	}
	return -floor(sum+8192, 16384)
}

// coefsOfEach are the coefficients behind each number of first indices.
func coefsOfEach(index []int) [][]int {
	var all [][]int
	for n := range len(index) + 1 {
		all = append(all, coefsWords(index[:n]))
	}
	return all
}

// residualsWords are the residuals of samples, by chapter 7.
func residualsWords(index, samples []int) []int {
	coefs := coefsOfEach(index)
	var out []int
	for place, x := range samples {
		out = append(out, x-foreseenWords(coefs, samples, place))
	}
	return out
}

// samplesBackWords are the samples of residuals, by chapter 7, and whether all
// are from -most - 1 to most.
func samplesBackWords(index, residuals []int, most int) ([]int, bool) {
	coefs := coefsOfEach(index)
	var out []int
	for place, r := range residuals {
		out = append(out, r)
		x := r + foreseenWords(coefs, out, place)
		if x > most || x < -most-1 {
			return nil, false
		}
		out[place] = x
	}
	return out, true
}

// takenOffWords is what a term takes off at a place of numbers, by chapter 8.
func takenOffWords(t lag.Term, l []int, place int) int {
	if t.Lag == 0 || place < t.Lag {
		return 0
	}
	return floor(l[place-t.Lag]*t.Gain, 16)
}

func offWords(t lag.Term, l []int) []int {
	var out []int
	for place, n := range l {
		out = append(out, n-takenOffWords(t, l, place))
	}
	return out
}

func onWords(t lag.Term, l []int) []int {
	var out []int
	for place, n := range l {
		out = append(out, n)
		out[place] += takenOffWords(t, out, place)
	}
	return out
}

func isTermWords(lag, gain int) bool {
	if lag == 0 && gain == 0 {
		return true
	}
	return lag > 0 && lag < 256 && gain > 0 && gain < 16
}

func isIndexWords(index []int) bool {
	if len(index) > 16 {
		return false
	}
	for _, i := range index {
		if i > 63 || i < -64 {
			return false
		}
	}
	return true
}

// binary writes a number that isn't below 0 with so many bits.
func binary(v, n int) string {
	if n == 0 {
		return ""
	}
	s := strconv.FormatInt(int64(v), 2)
	return strings.Repeat("0", n-len(s)) + s
}

// signed writes a number with so many bits, in two's complement.
func signed(v, n int) string {
	if v < 0 {
		v += 1 << n
	}
	return binary(v, n)
}

func foldWords(n int) int {
	if n < 0 {
		return -2*n - 1
	}
	return 2 * n
}

// codeWords is a number's code, by chapter 2.
func codeWords(n, k int) string {
	z := foldWords(n)
	power := 1 << k
	if z/power < 24 {
		return strings.Repeat("0", z/power) + "1" + binary(z%power, k)
	}
	return strings.Repeat("0", 24) + "1" + binary(z, 34)
}

// costWords is how many bits that has.
func costWords(n, k int) int {
	q := foldWords(n) / (1 << k)
	if q >= 24 {
		return 25 + 34
	}
	return q + 1 + k
}

// isTellable tells whether numbers may be told in parts, by chapter 3.
func isTellable(l []int, part int, rice []int) bool {
	if part < 0 || part > 3 || len(rice) != 1<<part || len(l)%(1<<part) != 0 {
		return false
	}
	for _, k := range rice {
		if k < 0 || k > 24 {
			return false
		}
	}
	return areResiduals(l)
}

const (
	leastResidual    = -8589934592 // -2^33
	greatestResidual = 8589934591
)

func areResiduals(l []int) bool {
	for _, n := range l {
		if n > greatestResidual || n < leastResidual {
			return false
		}
	}
	return true
}

// partsWords is the bits of numbers in parts, by chapter 3.
func partsWords(l []int, part int, rice []int) string {
	var text strings.Builder
	text.WriteString(binary(part, 2))
	size := len(l) / len(rice)
	for i, k := range rice {
		text.WriteString(binary(k, 5))
		for _, n := range l[i*size : (i+1)*size] {
			text.WriteString(codeWords(n, k))
		}
	}
	return text.String()
}

// bestKeyWords is the least parameter with the fewest bits, and these.
func bestKeyWords(l []int) (best, fewest int) {
	for k := 24; k >= 0; k-- {
		total := 0
		for _, n := range l {
			total += costWords(n, k)
		}
		if k == 24 || total <= fewest {
			best, fewest = k, total
		}
	}
	return best, fewest
}

// bestPartsWords is the best parts of numbers, by chapter 3.
func bestPartsWords(l []int) (part int, rice []int) {
	fewest := -1
	for p := range 4 {
		count := 1 << p
		if len(l)%count != 0 {
			break
		}
		total, keys := 0, []int{}
		for i := range count {
			k, cost := bestKeyWords(l[i*len(l)/count : (i+1)*len(l)/count])
			total, keys = total+5+cost, append(keys, k)
		}
		if fewest < 0 || total < fewest {
			fewest, part, rice = total, p, keys
		}
	}
	return part, rice
}

// cursor: a text of bits that is taken, and how it failed.
type cursor struct {
	bits string
	e    api.Errno
}

func (c *cursor) fail(e api.Errno) {
	if c.e == api.OK {
		c.e = e
	}
}

// take is the number of the next bits; 0 of a cursor that failed.
func (c *cursor) take(n int) int {
	if len(c.bits) < n {
		c.fail(api.ErrEnd)
	}
	if c.e != api.OK {
		return 0
	}
	v, _ := strconv.ParseInt("0"+c.bits[:n], 2, 64)
	c.bits = c.bits[n:]
	return int(v)
}

func (c *cursor) takeSigned(n int) int {
	v := c.take(n)
	if v >= 1<<n/2 {
		return v - 1<<n
	}
	return v
}

// takeCode is the number whose code comes next, by chapter 2.
func (c *cursor) takeCode(k int) int {
	if k > 24 {
		c.fail(api.ErrRange)
	}
	q := 0
	for c.e == api.OK && c.take(1) == 0 {
		if q++; q > 24 {
			c.fail(api.ErrRange)
		}
	}
	z := 0
	if q < 24 {
		z = q<<k + c.take(k)
	} else if z = c.take(34); c.e == api.OK && z>>k < 24 {
		c.fail(api.ErrForm)
	}
	if c.e != api.OK {
		return 0
	}
	if z%2 == 1 {
		return -(z + 1) / 2
	}
	return z / 2
}

// takeParts is the next n numbers, and their parts, by chapter 3.
func (c *cursor) takeParts(n int) (l []int, part int, rice []int) {
	part = c.take(2)
	if n%(1<<part) != 0 {
		c.fail(api.ErrForm)
	}
	for range 1 << part {
		k := c.take(5)
		rice = append(rice, k)
		for range n >> part {
			if l = append(l, c.takeCode(k)); c.e != api.OK {
				return nil, 0, nil
			}
		}
	}
	return l, part, rice
}
