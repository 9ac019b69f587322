package tree

import (
	"math/rand"
	"slices"
	"strings"
	"testing"

	"sackbut/api"
)

func TestTheExample(t *testing.T) {
	if leaves, e := Leaves("110", 64); !slices.Equal(leaves, []int{16, 16, 32}) || e != api.OK {
		t.Errorf("P9.1: Leaves of the example: %v, %d", leaves, e)
	}
	if text, e := Text([]int{16, 16, 32}, 64); text != "110" || e != api.OK {
		t.Errorf("P9.1: Text of the example: %q, %d", text, e)
	}
}

// Each tree of each size: Leaves, Paths, Put, and Text of its leaves.
func TestEachTree(t *testing.T) {
	for size := 1; size <= 1024; size++ {
		a := allOf(size)
		for _, x := range a.list {
			a.checkText(t, x.text)
			a.checkLeaves(t, x.leaves)
		}
	}
}

// Each text of up to so many letters, wrong letters too.
func TestEachShortText(t *testing.T) {
	for _, size := range []int{1, 16, 31, 32, 48, 64, 96, 128, 256, 1024} {
		a := allOf(size)
		texts, trees := []string{""}, 0
		for len(texts[0]) <= 7 {
			var longer []string
			for _, text := range texts {
				if a.checkText(t, text) {
					trees++
				}
				longer = append(longer, text+"0", text+"1", text+"2")
			}
			texts = longer
		}
		if trees == 0 {
			t.Errorf("P9.1: of size %d no text is a tree's", size)
		}
	}
}

func TestTextsThatAreNoTrees(t *testing.T) {
	for _, c := range []struct {
		text string
		size int
	}{
		{"", 32}, {"", 1024}, {"1", 64}, {"10", 64}, {"11", 64}, {"1111", 512}, // too early
		{"00", 32}, {"01", 32}, {"10", 32}, {"11", 32}, {"100", 32}, {"1000", 64}, {"1101", 64}, {"0 ", 32}, // behind the tree
		{"0", 16}, {"1", 16}, {"0", 33}, {"1", 48}, {"0", 1}, {"0", 1023}, // it can't be two
		{"2", 32}, {" ", 32}, {"/", 32}, {":", 32}, {"\x00", 32}, {"\x01", 32}, {"a0", 32}, {"20", 64}, {"120", 64}, {"102", 64}, {"1 00", 64}, {"１", 32}, {"\xff", 32}, {"b", 32}, {"P", 32}, {"\xb1", 32}, {"１00", 64},
		{"11111" + strings.Repeat("0", 6), 1024}, {"1111000000", 512}, // a bit too deep
		{strings.Repeat("1", 31), 1024}, {strings.Repeat("1", 16), 1024}, {strings.Repeat("1", 14), 1024},
		{strings.Repeat("0", 1<<20), 1024}, {strings.Repeat("1", 1<<20), 1024},
	} {
		if allOf(c.size).checkText(t, c.text) {
			t.Errorf("P9.1: %q is no tree's of size %d, by the words", c.text, c.size)
		}
	}
}

// Trees' texts with a letter changed, put in, or left out.
func TestTextsNearTrees(t *testing.T) {
	rnd, counts := rand.New(rand.NewSource(1)), map[bool]int{}
	for _, size := range []int{32, 64, 96, 128, 256, 512, 768, 1024} {
		a := allOf(size)
		for range 600 {
			text := []byte(a.list[rnd.Intn(len(a.list))].text)
			for range 1 + rnd.Intn(3) {
				at := rnd.Intn(len(text) + 1)
				text = slices.Replace(text, at, min(len(text), at+rnd.Intn(2)), []byte("01001101012")[rnd.Intn(10):][:rnd.Intn(2)]...)
			}
			counts[a.checkText(t, string(text))]++
		}
	}
	if counts[true] < 100 || counts[false] < 1000 {
		t.Errorf("P9.1: so many texts are trees', and aren't: %v", counts)
	}
}

func TestLeavesOfASizeOutside(t *testing.T) {
	for _, size := range outside() {
		for _, text := range []string{"", "0", "1", "100", "110", "2", "0000000", strings.Repeat("1", 15)} {
			if leaves, e := Leaves(text, size); len(leaves) != 0 || e != api.ErrRange {
				t.Errorf("P9.1: Leaves of %q of size %d: %v, %d, want ErrRange alone", text, size, leaves, e)
			}
		}
	}
}
