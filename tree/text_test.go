package tree

import (
	"math"
	"math/rand"
	"slices"
	"testing"

	"sackbut/api"
)

// Each list of some leaves, wrong ones too.
func TestEachShortListOfLeaves(t *testing.T) {
	for _, c := range []struct {
		size  int
		sizes []int
	}{
		{1, []int{-1, 0, 1, 2}},
		{16, []int{-16, 0, 8, 16, 32}},
		{32, []int{-16, 0, 8, 16, 32, 48}},
		{33, []int{16, 17, 33}},
		{48, []int{16, 24, 48}},
		{64, []int{0, 8, 16, 32, 48, 64, 128}},
		{96, []int{0, 24, 48, 96}},
		{128, []int{16, 32, 64, 128}},
		{1024, []int{64, 128, 256, 512, 1024}},
	} {
		a, lists, trees := allOf(c.size), [][]int{nil}, 0
		for len(lists[0]) <= 5 {
			var longer [][]int
			for _, leaves := range lists {
				if a.checkLeaves(t, leaves) {
					trees++
				}
				for _, n := range c.sizes {
					longer = append(longer, append(slices.Clip(leaves), n))
				}
			}
			lists = longer
		}
		if trees == 0 {
			t.Errorf("P9.1: of size %d no leaves are a tree's", c.size)
		}
	}
}

func TestLeavesThatAreNoTrees(t *testing.T) {
	for _, c := range []struct {
		leaves []int
		size   int
	}{
		{nil, 1}, {nil, 32}, {[]int{}, 1024}, // too few
		{[]int{16}, 32}, {[]int{16, 16}, 64}, {[]int{16, 16, 16}, 64}, {[]int{512, 256}, 1024},
		{[]int{16, 16, 16}, 32}, {[]int{32, 32}, 32}, {[]int{1, 1}, 1}, {[]int{32, 16}, 32}, {[]int{32, 0}, 32}, {[]int{16, 16, 0}, 32}, // too many
		{[]int{16, 32, 16}, 64}, {[]int{256, 512, 256}, 1024}, {[]int{64, 128, 64, 256, 512}, 1024}, // in another order
		{[]int{0}, 32}, {[]int{0, 32}, 32}, {[]int{-16, 48}, 32}, {[]int{-32}, 32}, {[]int{16, 32, -16}, 32}, {[]int{math.MinInt}, 16}, // 0 or below
		{[]int{64}, 32}, {[]int{33}, 32}, {[]int{2}, 1}, {[]int{math.MaxInt}, 1024}, {[]int{1025}, 1024}, // greater
		{[]int{8, 8}, 16}, {[]int{24, 24}, 48}, {[]int{24, 24, 48}, 96}, {[]int{32, 64}, 96}, {[]int{8, 8, 16}, 32}, // no halves
		{slices.Repeat([]int{32}, 32), 1024}, {slices.Repeat([]int{16}, 64), 1024}, {[]int{32, 32, 64, 128, 256, 512}, 1024}, // too deep
		{slices.Repeat([]int{1}, 1024), 1024}, {slices.Repeat([]int{64}, 1<<20), 1024},
	} {
		if allOf(c.size).checkLeaves(t, c.leaves) {
			t.Errorf("P9.1: %v are no tree's of size %d, by the words", c.leaves, c.size)
		}
	}
}

// Trees' leaves with one changed, put in, left out, or put elsewhere.
func TestLeavesNearTrees(t *testing.T) {
	rnd, counts := rand.New(rand.NewSource(2)), map[bool]int{}
	for _, size := range []int{16, 32, 48, 64, 96, 128, 256, 512, 768, 1024} {
		a := allOf(size)
		for range 600 {
			leaves := slices.Clone(a.list[rnd.Intn(len(a.list))].leaves)
			at, other := rnd.Intn(len(leaves)), rnd.Intn(len(leaves))
			switch rnd.Intn(4) {
			case 0:
				leaves[at], leaves[other] = leaves[other], leaves[at]
			case 1:
				leaves[at] = size >> rnd.Intn(6)
			case 2:
				leaves = slices.Delete(leaves, at, at+1)
			case 3:
				leaves = slices.Insert(leaves, at, leaves[other])
			}
			counts[a.checkLeaves(t, leaves)]++
		}
	}
	if counts[true] < 500 || counts[false] < 1000 {
		t.Errorf("P9.1: so many lists are trees' leaves, and aren't: %v", counts)
	}
}

func TestTextOfASizeOutside(t *testing.T) {
	for _, size := range outside() {
		for _, leaves := range [][]int{nil, {}, {size}, {0}, {16}, {size / 2, size / 2}, {16, 16, 32}} {
			if text, e := Text(leaves, size); text != "" || e != api.ErrRange {
				t.Errorf("P9.1: Text of %v of size %d: %q, %d, want ErrRange alone", leaves, size, text, e)
			}
		}
	}
}
