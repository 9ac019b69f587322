package pipe

import (
	"bytes"
	"testing"

	"sackbut/api"
)

func TestOpenLeavesItsBytes(t *testing.T) {
	room := []byte("\x00\x81\xff spare room")
	kept := bytes.Clone(room)
	b := room[:3]
	for most := -1; most < 30; most++ {
		for _, e := range []api.Errno{api.OK, api.ErrTree} {
			r := Open(b)
			r.Take(3)
			r.Zeros(most)
			r.Signed(4)
			r.Align()
			r.Take(48)
			r.Give(e)
			r.End()
		}
	}
	if !bytes.Equal(room, kept) || len(b) != 3 {
		t.Errorf("P1.3: what Open was handed: %x, want %x", room, kept)
	}
}

func TestOpenOfNothing(t *testing.T) {
	for _, b := range [][]byte{nil, {}} {
		r := Open(b)
		if r == nil || r.Left() != 0 || r.Take(0) != 0 || r.Fail() != api.OK || r.End() != api.OK {
			t.Fatal("R5: nil and empty aren't the same")
		}
	}
}

func TestReadersOfOneList(t *testing.T) {
	b := []byte("ab")
	one, two := Open(b), Open(b)
	one.Take(11)
	one.Give(api.ErrTree)
	if two.Left() != 16 || two.Fail() != api.OK || two.Take(16) != 'a'<<8|'b' {
		t.Error("R8: one reader changes another")
	}
}

// scribble writes over a list, its spare room too.
func scribble(b []byte) {
	b = b[:cap(b)]
	for k := range b {
		b[k] = 0x5a
	}
}

func TestBytesAreNewMemory(t *testing.T) {
	for n := range 200 {
		var w Writer
		for k := range n {
			w.Put(uint64(k%3%2), 1)
		}
		one, two := w.Bytes(), w.Bytes()
		want := bytes.Clone(one)
		scribble(one)
		if !bytes.Equal(two, want) {
			t.Fatalf("P1.3: two answers share memory: %x, want %x", two, want)
		}
		if !bytes.Equal(w.Bytes(), want) {
			t.Fatalf("P1.3: an answer shares memory with its writer: %x, want %x", w.Bytes(), want)
		}
		scribble(two)
		w.Align()
		w.Put(0xabcdef, 24)
		want = append(want, 0xab, 0xcd, 0xef)
		if got := w.Bytes(); !bytes.Equal(got, want) {
			t.Fatalf("P1.3: spare room is shared: %x, want %x", got, want)
		}
	}
}

func TestPuttingLeavesAnswers(t *testing.T) {
	for n := range 100 {
		var w Writer
		w.Zeros(n)
		b := w.Bytes()
		room := b[:cap(b)]
		want := bytes.Clone(room)
		w.Put(1<<48-1, 48)
		w.Align()
		w.Put(1<<48-1, 48)
		if !bytes.Equal(room, want) {
			t.Fatalf("P1.3: a later Put changes an answer: %x, want %x", room, want)
		}
	}
}

func TestBytesChangeNothing(t *testing.T) {
	var one, two Writer
	for k := range 100 {
		one.Put(uint64(k), 7)
		two.Put(uint64(k), 7)
		two.Bytes()
		two.Len()
	}
	if one.Len() != two.Len() || !bytes.Equal(one.Bytes(), two.Bytes()) {
		t.Error("R8: asking for bytes changes a writer")
	}
}
