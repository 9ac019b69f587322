package pack

import (
	"math"
	"math/rand"
	"testing"

	"sackbut/api"
)

// noCounts are numbers of channels that may not be.
func noCounts() []int {
	return []int{0, 9, -1, -2, -8, 10, 16, 255, 256, 257, 264, 1<<32 + 1, 1<<61 + 1, 1<<62 + 1, math.MinInt, math.MinInt + 1, math.MaxInt}
}

func unpackRefuses(t *testing.T, what string, f Form, channels int, b []byte, want api.Errno) {
	t.Helper()
	if l, e := Unpack(f, channels, b); e != want || len(l) != 0 {
		t.Errorf("P5.1: %s: Unpack(%v, %d) of %d bytes: %d channels, %d, want %d", what, f, channels, len(b), len(l), e, want)
	}
}

func TestUnpackFormsThatAreNotGood(t *testing.T) {
	long := make([]byte, 3*api.MaxSamples+3)
	for _, bits := range noDepths() {
		for _, f := range []Form{{bits, false}, {bits, true}} {
			for _, channels := range append(noCounts(), 1, 2, 8) {
				unpackRefuses(t, "no form", f, channels, nil, api.ErrConf)
				unpackRefuses(t, "no form", f, channels, long[:1], api.ErrConf)
				unpackRefuses(t, "no form", f, channels, long[:48], api.ErrConf)
				unpackRefuses(t, "no form", f, channels, long, api.ErrConf)
			}
		}
	}
}

func TestUnpackNumbersOfChannels(t *testing.T) {
	long := make([]byte, 27*api.MaxSamples+27)
	for _, f := range forms() {
		for _, channels := range noCounts() {
			for _, length := range []int{0, 1, 5, 7, 27, 54, 48, len(long)} {
				unpackRefuses(t, "no number of channels", f, channels, long[:length], api.ErrShape)
			}
		}
	}
}

func TestRowsThatAreWholeAndNot(t *testing.T) {
	rnd := rand.New(rand.NewSource(3))
	for _, f := range forms() {
		for channels := 1; channels <= api.MaxChannels; channels++ {
			row := channels * f.Bits / 8
			for length := range 5*row + 1 {
				b := anyBytes(rnd, length)
				if length%row == 0 {
					checkUnpack(t, f, channels, b)
				} else {
					unpackRefuses(t, "rows that aren't whole", f, channels, b, api.ErrEnd)
				}
			}
		}
	}
}

func TestUnpackNoBytes(t *testing.T) {
	for _, f := range forms() {
		for channels := 1; channels <= api.MaxChannels; channels++ {
			for _, b := range [][]byte{nil, {}, []byte{1, 2, 3}[:0]} {
				l, e := Unpack(f, channels, b)
				if e != api.OK || !same(l, make([][]int, channels)) {
					t.Errorf("P5.1: Unpack(%v, %d) of no bytes: %v, %d", f, channels, l, e)
				}
			}
		}
	}
}

func TestManyRows(t *testing.T) {
	long := make([]byte, 24*(api.MaxSamples+2))
	for _, f := range forms() {
		for channels := 1; channels <= api.MaxChannels; channels++ {
			row := channels * f.Bits / 8
			most := row * api.MaxSamples
			unpackRefuses(t, "MaxSamples rows and one", f, channels, long[:most+row], api.ErrShape)
			unpackRefuses(t, "MaxSamples rows and two", f, channels, long[:most+2*row], api.ErrShape)
			for _, part := range []int{1, row / 2, row - 1} {
				if part%row == 0 {
					continue
				}
				unpackRefuses(t, "MaxSamples rows and a part", f, channels, long[:most+part], api.ErrEnd)
				unpackRefuses(t, "MaxSamples rows, one, and a part", f, channels, long[:most+row+part], api.ErrEnd)
			}
		}
	}
}

func TestMaxSamplesRows(t *testing.T) {
	rnd := rand.New(rand.NewSource(4))
	for _, f := range forms() {
		for _, channels := range []int{1, 3} {
			b := anyBytes(rnd, channels*f.Bits/8*api.MaxSamples)
			l, e := Unpack(f, channels, b)
			if e != api.OK || len(l) != channels || len(l[channels-1]) != api.MaxSamples {
				t.Fatalf("P5.1: Unpack(%v, %d) of MaxSamples rows: %d channels, %d", f, channels, len(l), e)
			}
			if again, e := Pack(f, l); e != api.OK || string(again) != string(b) {
				t.Fatalf("P5.2: MaxSamples rows of %d channels aren't the same bytes as %v: %d", channels, f, e)
			}
		}
	}
}

func TestUnpackByTheWords(t *testing.T) {
	rnd := rand.New(rand.NewSource(5))
	for range 1000 {
		f := forms()[rnd.Intn(6)]
		channels := 1 + rnd.Intn(api.MaxChannels)
		checkUnpack(t, f, channels, anyBytes(rnd, rnd.Intn(100)*channels*f.Bits/8))
	}
}

// Each byte, each two bytes, and each three bytes that differ from such as
// stand at an end by one byte.
func TestEachByte(t *testing.T) {
	var ones, twos, threes []byte
	for x := range 1 << 16 {
		high, low := byte(x>>8), byte(x)
		if x < 256 {
			ones = append(ones, low)
		}
		twos = append(twos, high, low)
		for _, other := range []byte{0, 0x7f, 0x80, 0xff} {
			threes = append(threes, high, low, other, other, high, low, low, other, high)
		}
	}
	for _, big := range []bool{false, true} {
		for _, channels := range []int{1, 2, 4} {
			checkUnpack(t, Form{8, big}, channels, ones)
			checkUnpack(t, Form{16, big}, channels, twos)
			checkUnpack(t, Form{24, big}, channels, threes)
		}
	}
}
