package tree

import (
	"fmt"
	"math/rand"
	"slices"
	"testing"

	"sackbut/api"
	"sackbut/pipe"
)

// Each tree of each size: its leaves have its size together, and no other
// tree of that size has them.
func TestATreesLeavesAreItsOwn(t *testing.T) {
	for size := 1; size <= 1024; size++ {
		whose := map[string]string{}
		for _, x := range allOf(size).list {
			leaves, _ := Leaves(x.text, size)
			sum := 0
			for _, n := range leaves {
				sum += n
			}
			if sum != size {
				t.Fatalf("P9.2: the leaves of %s have together %d, want %d: %v", x.text, sum, size, leaves)
			}
			key := fmt.Sprint(leaves)
			if other, is := whose[key]; is {
				t.Fatalf("P9.2: %s and %s of size %d have the same leaves: %s", other, x.text, size, key)
			}
			whose[key] = x.text
			if text, e := Text(leaves, size); text != x.text || e != api.OK {
				t.Fatalf("P9.2: the leaves of %s of size %d come back as %q, %d", x.text, size, text, e)
			}
		}
	}
}

// Each tree of each size is taken as it was put, at some place in a byte, and
// so is what stands behind it.
func TestWhatIsPutIsTaken(t *testing.T) {
	rnd := rand.New(rand.NewSource(3))
	for size := 1; size <= 1024; size++ {
		for _, x := range allOf(size).list {
			var w pipe.Writer
			ahead, bits, behind := uint64(rnd.Intn(256)), rnd.Intn(9), uint64(rnd.Intn(256))
			w.Put(ahead>>(8-bits), bits)
			Put(&w, x.text, size)
			w.Put(behind, 8)
			r := pipe.Open(w.Bytes())
			if got := r.Take(bits); got != ahead>>(8-bits) {
				t.Fatalf("P9.3: %d comes back as %d, ahead of a tree", ahead>>(8-bits), got)
			}
			text, leaves := Take(r, size)
			if text != x.text || !slices.Equal(leaves, x.leaves) {
				t.Fatalf("P9.3: %s of size %d comes back as %q, %v", x.text, size, text, leaves)
			}
			if got := r.Take(8); got != behind || r.End() != api.OK {
				t.Fatalf("P9.3: %d comes back as %d behind a tree, the reader ends with %d", behind, got, r.End())
			}
		}
	}
}

func TestTreesOneBehindTheOther(t *testing.T) {
	rnd := rand.New(rand.NewSource(4))
	var w pipe.Writer
	var put []told
	var ofSize []int
	trees := map[int][]told{}
	for _, size := range sizes() {
		trees[size] = allOf(size).list
	}
	for range 3000 {
		size := sizes()[rnd.Intn(len(sizes()))]
		x := trees[size][rnd.Intn(len(trees[size]))]
		if !Put(&w, x.text, size) {
			t.Fatalf("P9.1: Put of %s of size %d: no", x.text, size)
		}
		put, ofSize = append(put, x), append(ofSize, size)
	}
	r := pipe.Open(w.Bytes())
	for i, x := range put {
		if text, leaves := Take(r, ofSize[i]); text != x.text || !slices.Equal(leaves, x.leaves) {
			t.Fatalf("P9.3: %s of size %d comes back as %q, %v", x.text, ofSize[i], text, leaves)
		}
	}
	if e := r.End(); e != api.OK {
		t.Errorf("P9.3: behind all trees the reader ends with %d", e)
	}
}
