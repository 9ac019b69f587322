// Package wide sums sizes of numbers: some millions of them may have a sum that has no room in 64 bits.
package wide

import "math/bits"

// Sum: a number of 128 bits.
type Sum struct{ High, Low uint64 }

// Plus: one more number's size added.
func (s Sum) Plus(n int) Sum {
	low, carry := bits.Add64(s.Low, uint64(max(n, -n)), 0)
	return Sum{s.High + carry, low}
}

// Less: is it less than another one?
func (s Sum) Less(than Sum) bool {
	if s.High != than.High {
		return s.High < than.High
	}
	return s.Low < than.Low
}
