// Package pipe is layer 1: bits, the highest first: see shared/doc/01-pipe.md.
package pipe

import "sackbut/api"

const (
	maxBits  = 48   // of a number
	maxZeros = 1000 // that are put in one call
)

// Writer: bits, one behind the other.
type Writer struct {
	data  []byte
	count int
}

// Put: a number of so many bits; could it be?
func (w *Writer) Put(v uint64, n int) bool {
	if n < 0 || n > maxBits || v>>n != 0 {
		return false
	}
	eachBit(v, n, w.push)
	return true
}

// Signed: one in two's complement; could it be?
func (w *Writer) Signed(v, n int) bool {
	if n < 1 || n > maxBits {
		return false
	}
	half := 1 << (n - 1)
	if v < -half || v >= half {
		return false
	}
	eachBit(uint64(v), n, w.push)
	return true
}

// Zeros: so many bits 0, then a bit 1; could it be?
func (w *Writer) Zeros(n int) bool {
	if n < 0 || n > maxZeros {
		return false
	}
	// This is the number 1, however long: bits above a number's own are 0.
	eachBit(1, n+1, w.push)
	return true
}

// Align: up to a whole byte.
func (w *Writer) Align() {
	for w.count%8 != 0 {
		w.push(0)
	}
}

// Len: how many bits.
func (w *Writer) Len() int { return w.count }

// Bytes: its bytes.
func (w *Writer) Bytes() []byte {
	out := make([]byte, len(w.data))
	copy(out, w.data)
	return out
}

func (w *Writer) push(bit byte) {
	if w.count%8 == 0 {
		w.data = append(w.data, 0)
	}
	w.data[w.count/8] |= bit << (7 - w.count%8)
	w.count++
}

// eachBit hands on the lowest n bits of v, the highest first.
func eachBit(v uint64, n int, put func(bit byte)) {
	for k := n - 1; k >= 0; k-- {
		put(byte(v >> k & 1))
	}
}

// Reader: bits that are taken.
type Reader struct {
	data []byte
	at   int
	err  api.Errno
}

// Open: upon bytes.
func Open(b []byte) *Reader { return &Reader{data: b} }

// Take: the number of so many bits.
func (r *Reader) Take(n int) uint64 {
	if n < 0 || n > maxBits {
		r.Give(api.ErrRange)
		return 0
	}
	if r.Left() < n {
		r.Give(api.ErrEnd)
		return 0
	}
	v := uint64(0)
	for range n {
		v = v<<1 | uint64(r.next())
	}
	return v
}

// Signed: that in two's complement.
func (r *Reader) Signed(n int) int {
	if n < 1 || n > maxBits {
		r.Give(api.ErrRange)
		return 0
	}
	v := int(r.Take(n))
	if v >= 1<<(n-1) {
		v -= 1 << n
	}
	return v
}

// Zeros: how many bits 0 up to a bit 1.
func (r *Reader) Zeros(most int) int {
	zeros := 0
	for r.Left() > 0 {
		if r.next() == 1 {
			return zeros
		}
		if zeros >= most {
			r.Give(api.ErrRange)
			return 0
		}
		zeros++
	}
	r.Give(api.ErrEnd)
	return 0
}

// Align: up to a whole byte.
func (r *Reader) Align() {
	for r.at%8 != 0 {
		if r.next() == 1 {
			r.Give(api.ErrPad)
			return
		}
	}
}

// Left: how many bits are left.
func (r *Reader) Left() int { return 8*len(r.data) - r.at }

// Fail: what it failed with.
func (r *Reader) Fail() api.Errno { return r.err }

// Give: it fails with this.
func (r *Reader) Give(e api.Errno) {
	if e == api.OK || r.err != api.OK {
		return
	}
	// A reader that failed lets go of its bits: so every later call finds
	// none, and answers 0, without asking for the error.
	*r = Reader{err: e}
}

// End: how it ended.
func (r *Reader) End() api.Errno {
	if r.err != api.OK {
		return r.err
	}
	if r.Left() >= 8 {
		return api.ErrMore
	}
	// A copy takes them, so that asking for the end takes nothing.
	rest := *r
	if rest.Take(rest.Left()) != 0 {
		return api.ErrPad
	}
	return api.OK
}

func (r *Reader) next() byte {
	bit := r.data[r.at/8] >> (7 - r.at%8) & 1
	r.at++
	return bit
}
