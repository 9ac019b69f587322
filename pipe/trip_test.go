package pipe

import (
	"math"
	"math/rand"
	"strconv"
	"strings"
	"testing"

	"sackbut/api"
)

// thing is what a call puts, and what must come back.
type thing struct {
	kind, n int
	v       uint64
}

const (
	plain = iota
	signed
	zeros
	align
	kinds
)

func anyThing(rnd *rand.Rand) thing {
	x := thing{kind: rnd.Intn(kinds)}
	switch x.kind {
	case plain:
		x.n = rnd.Intn(49)
		x.v = rnd.Uint64() & (1<<x.n - 1)
	case signed:
		x.n = 1 + rnd.Intn(48)
		x.v = uint64(int64(rnd.Uint64()) >> (64 - x.n))
	case zeros:
		x.n = rnd.Intn(1 << rnd.Intn(10))
	}
	return x
}

func (x thing) put(w *Writer) bool {
	switch x.kind {
	case plain:
		return w.Put(x.v, x.n)
	case signed:
		return w.Signed(int(x.v), x.n)
	case zeros:
		return w.Zeros(x.n)
	}
	w.Align()
	return true
}

func (x thing) comesBack(r *Reader) bool {
	switch x.kind {
	case plain:
		return r.Take(x.n) == x.v
	case signed:
		return r.Signed(x.n) == int(x.v)
	case zeros:
		return r.Zeros(x.n) == x.n
	}
	r.Align()
	return r.Left()%8 == 0
}

func TestWhatIsPutIsTaken(t *testing.T) {
	rnd := rand.New(rand.NewSource(1))
	for range 3000 {
		l := make([]thing, rnd.Intn(30))
		var w Writer
		for k := range l {
			l[k] = anyThing(rnd)
			if !l[k].put(&w) {
				t.Fatalf("P1.1: %v can't be put", l[k])
			}
		}
		b := w.Bytes()
		r := Open(b)
		for _, x := range l {
			if !x.comesBack(r) {
				t.Fatalf("P1.2: %v doesn't come back", x)
			}
		}
		if took := 8*len(b) - r.Left(); took != w.Len() || r.End() != api.OK {
			t.Fatalf("P1.2: %d bits taken of %d, End %d", took, w.Len(), r.End())
		}
	}
}

func TestEdgesArePutAndTaken(t *testing.T) {
	for n := 1; n <= 48; n++ {
		half := 1 << (n - 1)
		for _, v := range []int{-half, -half / 2, -1, 0, half / 2, half - 1} {
			for ahead := range 9 {
				var w Writer
				w.Put(0, ahead)
				if v >= 0 {
					w.Put(uint64(v), n)
					w.Put(uint64(2*v+1), n)
				}
				w.Signed(v, n)
				r := Open(w.Bytes())
				r.Take(ahead)
				if v >= 0 && (r.Take(n) != uint64(v) || r.Take(n) != uint64(2*v+1)) || r.Signed(n) != v {
					t.Errorf("P1.2: %d of %d bits behind %d doesn't come back", v, n, ahead)
				}
			}
		}
	}
	for n := range 1001 {
		var w Writer
		w.Zeros(n)
		if r := Open(w.Bytes()); r.Zeros(1000) != n || r.End() != api.OK {
			t.Errorf("P1.2: Zeros %d doesn't come back", n)
		}
	}
}

// plainReader is the chapter's words about a reader, over a text of bits.
type plainReader struct {
	all, bits string
	fail      api.Errno
}

func (p *plainReader) give(e api.Errno) {
	if p.fail == api.OK && e != api.OK {
		p.fail = e
	}
}

func (p *plainReader) take(n, least int) uint64 {
	switch {
	case p.fail != api.OK:
		return 0
	case n < least || n > 48:
		p.give(api.ErrRange)
		return 0
	case n > len(p.bits):
		p.give(api.ErrEnd)
		return 0
	}
	v, _ := strconv.ParseUint("0"+p.bits[:n], 2, 64)
	p.bits = p.bits[n:]
	return v
}

func (p *plainReader) signed(n int) int {
	v := p.take(n, 1)
	if p.fail == api.OK && v>>(n-1) == 1 {
		return int(v) - int(math.Pow(2, float64(n)))
	}
	return int(v)
}

func (p *plainReader) zeros(most int) int {
	if p.fail != api.OK {
		return 0
	}
	n := strings.Index(p.bits, "1")
	there := n
	if n < 0 {
		there = len(p.bits)
	}
	switch {
	case there > max(most, 0):
		p.give(api.ErrRange)
		return 0
	case n < 0:
		p.give(api.ErrEnd)
		return 0
	}
	p.bits = p.bits[n+1:]
	return n
}

func (p *plainReader) align() {
	if p.fail != api.OK {
		return
	}
	n := len(p.bits) % 8
	if strings.Contains(p.bits[:n], "1") {
		p.give(api.ErrPad)
	}
	p.bits = p.bits[n:]
}

func (p *plainReader) left() int {
	if p.fail != api.OK {
		return 0
	}
	return len(p.bits)
}

func (p *plainReader) end() api.Errno {
	switch {
	case p.fail != api.OK:
		return p.fail
	case len(p.bits) >= 8:
		return api.ErrMore
	case strings.Contains(p.bits, "1"):
		return api.ErrPad
	}
	return api.OK
}

// sameCall makes one call of both readers, and tells whether they agree.
func sameCall(r *Reader, p *plainReader, call, n int) bool {
	switch call {
	case 0:
		return r.Take(n) == p.take(n, 0)
	case 1:
		return r.Signed(n) == p.signed(n)
	case 2:
		return r.Zeros(n) == p.zeros(n)
	case 3:
		r.Align()
		p.align()
	case 4:
		r.Give(api.Errno(n))
		p.give(api.Errno(n))
	}
	return true
}

func sameState(r *Reader, p *plainReader) bool {
	return r.Left() == p.left() && r.Fail() == p.fail && r.End() == p.end()
}

func TestReaderAgainstItsWords(t *testing.T) {
	rnd := rand.New(rand.NewSource(2))
	for range 20000 {
		b := make([]byte, rnd.Intn(12))
		for k := range b {
			b[k] = byte(rnd.Intn(256)) & byte(rnd.Intn(256))
		}
		r, p := Open(b), &plainReader{all: textOf(b), bits: textOf(b)}
		for range 12 {
			call, n := rnd.Intn(4), rnd.Intn(12)
			switch rnd.Intn(20) {
			case 0:
				call = 4
			case 1:
				n = rnd.Intn(54) - 3
			}
			if !sameCall(r, p, call, n) || !sameState(r, p) {
				t.Fatalf("P1.1: %s, %s left: call %d of %d: Left %d, Fail %d, End %d, want %d, %d, %d",
					p.all, p.bits, call, n, r.Left(), r.Fail(), r.End(), p.left(), p.fail, p.end())
			}
		}
	}
}

func TestAllShortBytes(t *testing.T) {
	for x := range 1 << 16 {
		b := []byte{byte(x >> 8), byte(x)}
		text := textOf(b)
		for ahead := 0; ahead <= 16; ahead += 1 + x%3 {
			for call := range 4 {
				r, p := Open(b), &plainReader{all: text, bits: text}
				r.Take(ahead)
				p.take(ahead, 0)
				n := x%19 - 1
				if !sameCall(r, p, call, n) || !sameState(r, p) {
					t.Fatalf("P1.1: %s behind %d: call %d of %d", text, ahead, call, n)
				}
			}
		}
	}
}
