package toll

import "math/rand"

// bitOn takes one bit into a register, by the chapter's words.
func bitOn(register uint32, bit byte) uint32 {
	lowest := byte(register & 1)
	register >>= 1
	if lowest != bit {
		register ^= 0xEDB88320
	}
	return register
}

// through takes bytes into a register, bit by bit.
func through(register uint32, b []byte) uint32 {
	for _, x := range b {
		for i := range 8 {
			register = bitOn(register, x>>i&1)
		}
	}
	return register
}

// plain is the sum of bytes, by the chapter's words.
func plain(b []byte) uint32 { return through(0xFFFFFFFF, b) ^ 0xFFFFFFFF }

// grid is what so many bytes 0 make of a register with a single bit, for each
// of its bits: of any register they make the exclusive or of its bits' rows.
type grid [32]uint32

func (g grid) of(register uint32) uint32 {
	out := uint32(0)
	for i, row := range g {
		if register>>i&1 == 1 {
			out ^= row
		}
	}
	return out
}

// then is one grid's bytes and another's behind them.
func (g grid) then(h grid) grid {
	for i, row := range g {
		g[i] = h.of(row)
	}
	return g
}

// gridOf is the grid of n bytes 0, bit by bit where there is one of them, by
// halves where there are more.
func gridOf(n int) grid {
	var g grid
	for i := range g {
		g[i] = 1 << i
	}
	if n == 0 {
		return g
	}
	if n == 1 {
		for i := range g {
			for range 8 {
				g[i] = bitOn(g[i], 0)
			}
		}
		return g
	}
	half := gridOf(n / 2)
	return half.then(half).then(gridOf(n % 2))
}

// anyBytes are of a length below the one that is given.
func anyBytes(rnd *rand.Rand, below int) []byte {
	b := make([]byte, rnd.Intn(below))
	rnd.Read(b)
	return b
}

// great are numbers of bytes that no test has the time to take one by one.
func great(rnd *rand.Rand) []int {
	out := []int{1<<40 - 1, 1 << 40}
	for power := 20; power < 40; power++ {
		out = append(out, 1<<power-1, 1<<power, 1<<power+1, 1<<power+rnd.Intn(1<<power))
	}
	return out
}
