package tree

import (
	"fmt"
	"slices"
	"testing"

	"sackbut/api"
	"sackbut/pipe"
)

// Each tree of these sizes, behind each number of bits, and bits 1 behind it.
func TestTakeOfEachTree(t *testing.T) {
	for _, size := range sizes() {
		for _, x := range allOf(size).list {
			for ahead := range 8 {
				r := readerBehind(t, ahead, x.text+"11")
				left := r.Left() - len(x.text)
				text, leaves := Take(r, size)
				if text != x.text || !slices.Equal(leaves, x.leaves) || r.Fail() != api.OK || r.Left() != left {
					t.Fatalf("P9.1: Take of %s of size %d behind %d bits: %q, %v, fails with %d, %d bits left, want %v, %d left", x.text, size, ahead, text, leaves, r.Fail(), r.Left(), x.leaves, left)
				}
			}
		}
	}
}

// checkNothing: there are neither text nor leaves, and the reader fails so.
func checkNothing(t *testing.T, what string, r *pipe.Reader, size int, want api.Errno) {
	t.Helper()
	if text, leaves := Take(r, size); text != "" || len(leaves) != 0 || r.Fail() != want {
		t.Fatalf("P9.1: Take of size %d of %s: %q, %v, fails with %d, want nothing, %d", size, what, text, leaves, r.Fail(), want)
	}
}

// Each tree of these sizes, ended ahead of each of its bits. Where it ends
// early, other bits can't make a tree of it: a tree ends with its last bit.
func TestTakeWhereBitsEndTooEarly(t *testing.T) {
	for _, size := range sizes() {
		for _, x := range allOf(size).list {
			for n := range len(x.text) {
				r := readerBehind(t, (16-n)%8, x.text[:n])
				if r.Left() != n {
					t.Fatalf("the reader has %d bits, want %d", r.Left(), n)
				}
				checkNothing(t, "what ends early: "+x.text[:n], r, size, api.ErrEnd)
				checkNothing(t, "the same reader again", r, 16, api.ErrEnd)
			}
		}
	}
}

// A tree without bits is there where there are none.
func TestTakeOfNoBits(t *testing.T) {
	for _, size := range []int{1, 15, 16, 17, 31, 33, 48, 1008, 1023} {
		for _, b := range [][]byte{nil, {}} {
			r := pipe.Open(b)
			if text, leaves := Take(r, size); text != "" || !slices.Equal(leaves, []int{size}) || r.Fail() != api.OK {
				t.Errorf("P9.1: Take of size %d of no bits: %q, %v, fails with %d", size, text, leaves, r.Fail())
			}
		}
	}
	checkNothing(t, "no bits", pipe.Open(nil), 32, api.ErrEnd)
	checkNothing(t, "no bits", pipe.Open(nil), 1024, api.ErrEnd)
}

func TestTakeOfASizeOutside(t *testing.T) {
	for _, size := range outside() {
		for _, b := range [][]byte{nil, {0}, {0xff, 0xff, 0xff}} {
			checkNothing(t, fmt.Sprint(b), pipe.Open(b), size, api.ErrRange)
		}
		r := pipe.Open([]byte{0, 0})
		Take(r, size)
		checkNothing(t, "a reader that failed by a size outside", r, 16, api.ErrRange)
	}
}

func TestTakeOfAReaderThatFailed(t *testing.T) {
	for e := api.ErrRange; e <= api.ErrKind; e++ {
		r := pipe.Open([]byte{0, 0xff})
		r.Give(e)
		for _, size := range []int{1, 16, 32, 33, 64, 1024, 0, -1, 1025, 1056} {
			checkNothing(t, "a reader that failed", r, size, e)
		}
	}
}

// Of any two bytes there is what there is by the words: the one tree with
// whose text they begin, if there is one.
func TestTakeOfAnyBits(t *testing.T) {
	a := allOf(1024)
	for x := range 1 << 16 {
		bits := fmt.Sprintf("%016b", x)
		var want told
		e := api.ErrEnd
		for n := range 17 {
			if tree, is := a.byText[bits[:n]]; is {
				want, e = tree, api.OK
				break
			}
		}
		r := pipe.Open([]byte{byte(x >> 8), byte(x)})
		text, leaves := Take(r, 1024)
		if text != want.text || !slices.Equal(leaves, want.leaves) || r.Fail() != e {
			t.Fatalf("P9.1: Take of %s: %q, %v, fails with %d, want %q, %v, %d", bits, text, leaves, r.Fail(), want.text, want.leaves, e)
		}
		if e == api.OK && r.Left() != 16-len(text) {
			t.Fatalf("P9.1: Take of %s: %d bits left", bits, r.Left())
		}
	}
}
