package tree

import (
	"slices"
	"testing"

	"sackbut/api"
	"sackbut/pipe"
)

// scribble writes over a list, its spare room too.
func scribble(l []int) {
	l = l[:cap(l)]
	for i := range l {
		l[i] = -77
	}
}

func TestLeavesHandedInStay(t *testing.T) {
	for _, size := range sizes() {
		for _, x := range allOf(size).list {
			for count := range len(x.leaves) + 2 {
				room := append(slices.Clone(x.leaves), size, 5)
				kept := slices.Clone(room)
				text, _ := Text(room[:count], size)
				if !slices.Equal(room, kept) {
					t.Fatalf("R6: Text changes what is handed in: %v, want %v", room, kept)
				}
				scribble(room)
				if again, _ := Text(kept[:count], size); again != text {
					t.Fatalf("R6: Text of %v keeps what was handed in: %q, then %q", kept[:count], text, again)
				}
			}
		}
	}
}

func TestBytesHandedInStay(t *testing.T) {
	b := []byte{0xb3, 0xff, 0x5a}
	r := pipe.Open(b[:2])
	Take(r, 32)
	Take(r, 1024)
	Take(r, 0)
	if !slices.Equal(b, []byte{0xb3, 0xff, 0x5a}) {
		t.Errorf("R6: Take changes bytes: %v", b)
	}
}

func TestAnswersAreNewMemory(t *testing.T) {
	for _, size := range sizes() {
		for _, x := range allOf(size).list {
			leaves, _ := Leaves(x.text, size)
			other, _ := Leaves(x.text, size)
			_, taken := Take(readerBehind(t, 3, x.text), size)
			scribble(other)
			_, more := Take(readerBehind(t, 3, x.text), size)
			scribble(more)
			if !slices.Equal(leaves, x.leaves) || !slices.Equal(taken, x.leaves) {
				t.Fatalf("R6: answers share memory: %v, %v, want %v", leaves, taken, x.leaves)
			}
			if again, _ := Leaves(x.text, size); !slices.Equal(again, x.leaves) {
				t.Fatalf("R6: writing over an answer changes the next one: %v, want %v", again, x.leaves)
			}
		}
	}
}

// Trees of which two are taken of one reader.
func TestTwoOfOneReaderAreNewMemory(t *testing.T) {
	r := readerBehind(t, 0, "110"+"101")
	_, first := Take(r, 64)
	_, second := Take(r, 64)
	scribble(first)
	if !slices.Equal(second, []int{32, 16, 16}) {
		t.Errorf("R6: two answers of one reader share memory: %v", second)
	}
}

func TestAnswersDependOnArguments(t *testing.T) {
	a := allOf(1024)
	for i, x := range a.list {
		other := a.list[(i*7+1)%len(a.list)]
		for range 2 {
			a.checkText(t, x.text)
			a.checkLeaves(t, x.leaves)
			if text, leaves := Take(readerBehind(t, 1, x.text), 1024); text != x.text || !slices.Equal(leaves, x.leaves) {
				t.Fatalf("R8: Take again of %s: %q, %v", x.text, text, leaves)
			}
			Leaves(other.text[1:], 1024)
			Text(other.leaves[1:], 1024)
			Put(&pipe.Writer{}, other.text, 1024)
			Take(readerBehind(t, 0, other.text), 512)
		}
	}
}

// None and an empty list mean the same.
func TestNoneAndEmpty(t *testing.T) {
	for _, leaves := range [][]int{nil, {}, make([]int, 0, 4)} {
		if text, e := Text(leaves, 32); text != "" || e != api.ErrTree {
			t.Errorf("R5: Text of no leaves: %q, %d", text, e)
		}
		if text, e := Text(leaves, 0); text != "" || e != api.ErrRange {
			t.Errorf("R5: Text of no leaves of size 0: %q, %d", text, e)
		}
	}
}
