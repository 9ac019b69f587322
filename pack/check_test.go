package pack

import (
	"math"
	"math/rand"
	"slices"
	"testing"

	"sackbut/api"
)

// refuses tells whether Check and Pack answer an error, and Pack no bytes.
func refuses(t *testing.T, what string, f Form, l [][]int, want api.Errno) {
	t.Helper()
	if e := Check(f, l); e != want {
		t.Errorf("P5.1: %s: Check as %v: %d, want %d", what, f, e, want)
	}
	if b, e := Pack(f, l); e != want || len(b) != 0 {
		t.Errorf("P5.1: %s: Pack as %v: %d bytes, %d, want %d", what, f, len(b), e, want)
	}
}

func TestFormsThatAreNotGood(t *testing.T) {
	long := make([]int, api.MaxSamples+1)
	for _, bits := range noDepths() {
		for _, f := range []Form{{bits, false}, {bits, true}} {
			refuses(t, "channels that are right", f, [][]int{{1, -2}, {0, 5}}, api.ErrConf)
			refuses(t, "channels of no samples", f, [][]int{{}, {}}, api.ErrConf)
			refuses(t, "no channels", f, nil, api.ErrConf)
			refuses(t, "too many channels", f, make([][]int, 9), api.ErrConf)
			refuses(t, "unlike lengths", f, [][]int{{1}, {}}, api.ErrConf)
			refuses(t, "too many samples", f, [][]int{long}, api.ErrConf)
			refuses(t, "no samples of any form", f, [][]int{{math.MaxInt}}, api.ErrConf)
			refuses(t, "everything wrong", f, [][]int{long, {math.MinInt}}, api.ErrConf)
		}
	}
}

func TestNumbersOfChannels(t *testing.T) {
	for _, f := range forms() {
		least, _ := ends(f.Bits)
		for _, list := range [][]int{nil, {}, {1}, {1, -2, 3}, {least - 1}} {
			refuses(t, "no channels", f, nil, api.ErrShape)
			refuses(t, "no channels", f, [][]int{}, api.ErrShape)
			refuses(t, "no channels, with spare room", f, [][]int{list}[:0], api.ErrShape)
			for _, channels := range []int{9, 10, 16, 255, 256, 257, 264} {
				refuses(t, "too many channels", f, many(channels, list), api.ErrShape)
			}
		}
		for channels := 1; channels <= api.MaxChannels; channels++ {
			checkPack(t, f, many(channels, []int{1, -2, 3}))
			checkPack(t, f, many(channels, nil))
			checkPack(t, f, many(channels, []int{}))
		}
	}
}

// One channel is longer or shorter than the others, wherever it stands.
func TestUnlikeLengths(t *testing.T) {
	for _, f := range forms() {
		_, greatest := ends(f.Bits)
		for channels := 2; channels <= api.MaxChannels; channels++ {
			for odd := range channels {
				for _, list := range [][]int{nil, {1}, {1, 2}, {1, 2, 3, 4}, {greatest + 1}, {1, 2, 3, greatest + 1}} {
					l := many(channels, []int{1, 2, 3})
					l[odd] = list
					refuses(t, "unlike lengths", f, l, api.ErrShape)
					l = many(channels, []int{1, 2, greatest + 1})
					l[odd] = list
					refuses(t, "unlike lengths, and no samples", f, l, api.ErrShape)
				}
			}
		}
		refuses(t, "lengths that are like by pairs", f, [][]int{{1}, {1}, {1, 2}, {1, 2}}, api.ErrShape)
	}
}

func TestManySamples(t *testing.T) {
	list := make([]int, api.MaxSamples+1)
	for _, f := range forms() {
		_, greatest := ends(f.Bits)
		for channels := 1; channels <= api.MaxChannels; channels++ {
			if e := Check(f, many(channels, list[:api.MaxSamples])); e != api.OK {
				t.Errorf("P5.1: Check(%v) of MaxSamples samples: %d", f, e)
			}
			refuses(t, "MaxSamples samples and one", f, many(channels, list), api.ErrShape)
		}
		l := many(3, list[:api.MaxSamples])
		l[1] = list
		refuses(t, "one channel of MaxSamples samples and one", f, l, api.ErrShape)
		list[7] = greatest + 1
		refuses(t, "too many samples, and no samples", f, many(2, list), api.ErrShape)
		refuses(t, "MaxSamples numbers, one of them no sample", f, many(2, list[:api.MaxSamples]), api.ErrValue)
		list[7] = 0
	}
}

func TestMaxSamplesArePacked(t *testing.T) {
	rnd := rand.New(rand.NewSource(1))
	for _, f := range forms() {
		list := make([]int, api.MaxSamples)
		for i := range list {
			list[i] = anySample(rnd, f)
		}
		for _, channels := range []int{1, api.MaxChannels} {
			l := many(channels, list)
			b, e := Pack(f, l)
			if want := channels * api.MaxSamples * f.Bits / 8; e != api.OK || len(b) != want {
				t.Fatalf("P5.1: Pack(%v) of MaxSamples samples: %d bytes, %d, want %d", f, len(b), e, want)
			}
			if m, e := Unpack(f, channels, b); e != api.OK || !same(m, l) {
				t.Fatalf("P5.2: MaxSamples samples of %d channels don't come back as %v: %d", channels, f, e)
			}
		}
	}
}

// A single number is no sample, wherever it stands.
func TestNumbersThatAreNoSamples(t *testing.T) {
	for _, f := range forms() {
		least, greatest := ends(f.Bits)
		none := []int{least - 1, greatest + 1, -greatest - 2, 1 << f.Bits, -1 << f.Bits, 1 << 32, math.MinInt, math.MaxInt}
		for _, channels := range []int{1, 2, 8} {
			for c := range channels {
				for i := range 5 {
					for _, n := range none {
						l := clone(many(channels, []int{least, -1, 0, 1, greatest}))
						l[c][i] = n
						refuses(t, "a number that is no sample", f, l, api.ErrValue)
					}
				}
			}
		}
		refuses(t, "nothing but no samples", f, many(8, slices.Repeat([]int{greatest + 1}, 9)), api.ErrValue)
	}
}

// What is a sample of one depth is none of a lower one.
func TestDepthsOneByOne(t *testing.T) {
	for _, f := range forms() {
		for _, g := range forms() {
			least, greatest := ends(g.Bits)
			want := api.OK
			if g.Bits > f.Bits {
				want = api.ErrValue
			}
			for _, n := range []int{least, greatest} {
				if e := Check(f, [][]int{{0, n}}); e != want {
					t.Errorf("P5.1: Check(%v) of %d: %d, want %d", f, n, e, want)
				}
			}
		}
	}
}
