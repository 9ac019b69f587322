package tree

import (
	"fmt"
	"math"
	"slices"
	"strings"
	"testing"

	"sackbut/api"
	"sackbut/pipe"
)

// The chapter's words told over again: trees are made from the smallest ones
// up, and looked up by their texts and by their leaves.

// told is a tree by the words: its text, its leaves, and each one's way from
// the top.
type told struct {
	text   string
	leaves []int
	paths  []string
}

func (x told) key() string { return fmt.Sprint(x.leaves) }

// mayWords: there is depth left, and the size is one of trees, and a multiple
// of two times 16.
func mayWords(size, left int) bool {
	for multiple := 32; multiple <= 1024; multiple += 32 {
		if size == multiple {
			return left >= 1
		}
	}
	return false
}

// treesWords is all trees of a size and of a depth left.
func treesWords(size, left int) []told {
	if !mayWords(size, left) {
		return []told{{"", []int{size}, []string{""}}}
	}
	all := []told{{"0", []int{size}, []string{""}}}
	halves := treesWords(size/2, left-1)
	for _, first := range halves {
		for _, second := range halves {
			all = append(all, both(first, second))
		}
	}
	return all
}

// both is the tree that is these two.
func both(first, second told) told {
	x := told{text: "1" + first.text + second.text, leaves: slices.Concat(first.leaves, second.leaves)}
	for _, path := range first.paths {
		x.paths = append(x.paths, "0"+path)
	}
	for _, path := range second.paths {
		x.paths = append(x.paths, "1"+path)
	}
	return x
}

// all is the trees of a size, by their texts and by their leaves.
type all struct {
	size     int
	list     []told
	byText   map[string]told
	byLeaves map[string]told
}

func allOf(size int) *all {
	a := &all{size: size, byText: map[string]told{}, byLeaves: map[string]told{}}
	if size >= 1 && size <= 1024 {
		a.list = treesWords(size, 4)
	}
	for _, x := range a.list {
		a.byText[x.text], a.byLeaves[x.key()] = x, x
	}
	return a
}

// sizes are such as have trees of one leaf alone, and of more; the greatest
// has the most trees.
func sizes() []int {
	return []int{1, 2, 15, 16, 17, 31, 32, 33, 48, 64, 80, 96, 128, 160, 192, 256, 480, 512, 768, 992, 1008, 1023, 1024}
}

// outside are such as have none.
func outside() []int {
	return []int{0, -1, -16, -32, -1024, math.MinInt, 1025, 1040, 1056, 2048, 1 << 20, 1 << 40, math.MaxInt}
}

// readerBehind opens bits as a text, so many bits 1 ahead of them and as many
// bits 1 behind as fill a byte; the bits ahead are taken.
func readerBehind(t *testing.T, ahead int, bits string) *pipe.Reader {
	t.Helper()
	text := strings.Repeat("1", ahead) + bits
	text += strings.Repeat("1", (8-len(text)%8)%8)
	var b []byte
	for at := 0; at < len(text); at += 8 {
		x := 0
		for _, letter := range text[at : at+8] {
			x = 2*x + int(letter-'0')
		}
		b = append(b, byte(x))
	}
	r := pipe.Open(b)
	for range ahead {
		r.Take(1)
	}
	return r
}

// bitsOf is a writer's bits as a text.
func bitsOf(w *pipe.Writer) string {
	text := ""
	for _, x := range w.Bytes() {
		text += fmt.Sprintf("%08b", x)
	}
	return text[:w.Len()]
}

// pathsText is what Paths gives, as a text.
func pathsText(text string, size int) string {
	given := ""
	for path, n := range Paths(text, size) {
		given += fmt.Sprintf("%q:%d ", path, n)
	}
	return given
}

func pathsWords(x told) string {
	given := ""
	for i, path := range x.paths {
		given += fmt.Sprintf("%q:%d ", path, x.leaves[i])
	}
	return given
}

// checkText holds all that is told of a text against the words; is it a tree's?
func (a *all) checkText(t *testing.T, text string) bool {
	t.Helper()
	x, is := a.byText[text]
	want := api.OK
	if !is {
		want = api.ErrTree
	}
	if leaves, e := Leaves(text, a.size); !slices.Equal(leaves, x.leaves) || e != want {
		t.Fatalf("P9.1: Leaves of %q of size %d: %v, %d, want %v, %d", text, a.size, leaves, e, x.leaves, want)
	}
	if given := pathsText(text, a.size); given != pathsWords(x) {
		t.Fatalf("P9.1: Paths of %q of size %d: %s, want %s", text, a.size, given, pathsWords(x))
	}
	var w pipe.Writer
	if put := Put(&w, text, a.size); put != is || bitsOf(&w) != x.text {
		t.Fatalf("P9.1: Put of %q of size %d: %t, bits %q, want %t, %q", text, a.size, put, bitsOf(&w), is, x.text)
	}
	return is
}

// checkLeaves holds Text against the words; are they a tree's?
func (a *all) checkLeaves(t *testing.T, leaves []int) bool {
	t.Helper()
	x, is := a.byLeaves[fmt.Sprint(leaves)]
	want := api.OK
	if !is {
		want = api.ErrTree
	}
	if text, e := Text(leaves, a.size); text != x.text || e != want {
		t.Fatalf("P9.1: Text of %v of size %d: %q, %d, want %q, %d", leaves, a.size, text, e, x.text, want)
	}
	return is
}
