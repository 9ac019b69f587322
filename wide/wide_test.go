package wide

import (
	"math"
	"math/big"
	"math/rand"
	"testing"
)

func (s Sum) whole() *big.Int {
	x := new(big.Int).SetUint64(s.High)
	return x.Lsh(x, 64).Add(x, new(big.Int).SetUint64(s.Low))
}

func TestPlus(t *testing.T) {
	sum := Sum{}
	for range 6 {
		sum = sum.Plus(math.MinInt).Plus(math.MaxInt).Plus(-1).Plus(2)
	}
	if sum != (Sum{6, 12}) {
		t.Errorf("a sum beyond 64 bits: %v", sum)
	}
	for _, c := range []struct {
		from Sum
		n    int
		want Sum
	}{
		{Sum{}, 0, Sum{}},
		{Sum{}, 5, Sum{0, 5}},
		{Sum{}, -5, Sum{0, 5}},
		{Sum{0, math.MaxUint64}, 0, Sum{0, math.MaxUint64}},
		{Sum{0, math.MaxUint64}, 1, Sum{1, 0}},
		{Sum{0, math.MaxUint64}, -2, Sum{1, 1}},
		{Sum{7, math.MaxUint64}, math.MinInt, Sum{8, 1<<63 - 1}},
	} {
		if got := c.from.Plus(c.n); got != c.want {
			t.Errorf("%v and the size of %d: %v, want %v", c.from, c.n, got, c.want)
		}
	}
}

func TestPlusInNumbersWithoutAnEnd(t *testing.T) {
	rnd := rand.New(rand.NewSource(1))
	sum, want := Sum{}, new(big.Int)
	for range 10000 {
		n := int(rnd.Uint64()) >> rnd.Intn(64)
		x := big.NewInt(int64(n))
		want.Add(want, x.Abs(x))
		if sum = sum.Plus(n); sum.whole().Cmp(want) != 0 {
			t.Fatalf("the sum is %v, want %v", sum.whole(), want)
		}
	}
	if sum.High == 0 {
		t.Error("no sum is beyond 64 bits")
	}
}

func TestLess(t *testing.T) {
	rising := []Sum{{0, 0}, {0, 1}, {0, math.MaxUint64}, {1, 0}, {1, 5}, {2, 0}, {2, 4}, {math.MaxUint64, 3}}
	for i, a := range rising {
		for j, b := range rising {
			if a.Less(b) != (i < j) {
				t.Errorf("is %v less than %v: %v", a, b, a.Less(b))
			}
		}
	}
}
