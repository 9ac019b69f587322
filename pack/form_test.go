package pack

import (
	"math"
	"testing"
)

// noDepths are numbers of bits that are none of the three.
func noDepths() []int {
	return []int{0, 12, 32, -1, -8, -16, -24, 1, 4, 7, 9, 15, 17, 20, 23, 25, 40, 48, 64, 65,
		1<<32 + 8, 1<<32 + 16, 1<<32 + 24, 1<<16 + 8, 256 + 8, math.MinInt, math.MinInt + 8, math.MaxInt}
}

func TestGoodOfTheThreeDepths(t *testing.T) {
	for _, big := range []bool{false, true} {
		for bits := -300; bits <= 300; bits++ {
			want := bits == 8 || bits == 16 || bits == 24
			if got := (Form{bits, big}).Good(); got != want {
				t.Errorf("P5.1: Good of %d bits, Big %t: %t", bits, big, got)
			}
		}
		for _, bits := range noDepths() {
			if (Form{bits, big}).Good() {
				t.Errorf("P5.1: %d bits, Big %t, are good", bits, big)
			}
		}
	}
}

func TestHasAtBothEnds(t *testing.T) {
	for _, f := range forms() {
		least, greatest := ends(f.Bits)
		for _, n := range []int{least, least + 1, -1, 0, 1, greatest - 1, greatest} {
			if !f.Has(n) {
				t.Errorf("P5.1: %v has no sample %d", f, n)
			}
		}
		beyond := []int{least - 1, greatest + 1, 2 * least, 2 * greatest, math.MinInt, math.MaxInt}
		for power := f.Bits; power < 63; power++ {
			beyond = append(beyond, 1<<power, -1<<power, 1<<power+1, -1<<power-1)
		}
		for _, n := range beyond {
			if f.Has(n) {
				t.Errorf("P5.1: %v has a sample %d", f, n)
			}
		}
	}
}

func TestHasOneByOne(t *testing.T) {
	for _, f := range forms() {
		least, greatest := ends(f.Bits)
		for n := -70000; n <= 70000; n++ {
			if got, want := f.Has(n), n >= least && n <= greatest; got != want {
				t.Fatalf("P5.1: %v.Has(%d): %t", f, n, got)
			}
		}
	}
}

// Of such forms nothing is promised but that the call ends.
func TestHasOfNoForm(t *testing.T) {
	for _, bits := range noDepths() {
		for _, n := range []int{0, 1, -1, 127, math.MinInt, math.MaxInt} {
			Form{bits, false}.Has(n)
			Form{bits, true}.Has(n)
		}
	}
}
