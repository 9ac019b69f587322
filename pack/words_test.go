package pack

import (
	"encoding/hex"
	"fmt"
	"math/rand"
	"slices"
	"strconv"
	"strings"
	"testing"

	"sackbut/api"
)

// forms are all that are good.
func forms() []Form {
	return []Form{{8, false}, {8, true}, {16, false}, {16, true}, {24, false}, {24, true}}
}

// ends are the least and the greatest sample of so many bits.
func ends(bits int) (int, int) {
	switch bits {
	case 8:
		return -128, 127
	case 16:
		return -32768, 32767
	}
	return -8388608, 8388607
}

// sampleWords is a sample by the chapter's words, as a text of hex digits.
func sampleWords(f Form, n int) string {
	if n < 0 {
		_, greatest := ends(f.Bits)
		n += 2 * (greatest + 1)
	}
	text := fmt.Sprintf("%0*x", f.Bits/4, n)
	if f.Big {
		return text
	}
	turned := ""
	for i := 0; i < len(text); i += 2 {
		turned = text[i:i+2] + turned
	}
	return turned
}

// packWords is what channels are, packed, by the chapter's words.
func packWords(f Form, l [][]int) string {
	var text strings.Builder
	for i := range l[0] {
		for c := range l {
			text.WriteString(sampleWords(f, l[c][i]))
		}
	}
	return text.String()
}

// numberWords is the sample of such bytes, by the chapter's words.
func numberWords(f Form, text string) int {
	if !f.Big {
		turned := ""
		for i := 0; i < len(text); i += 2 {
			turned = text[i:i+2] + turned
		}
		text = turned
	}
	v, _ := strconv.ParseInt(text, 16, 64)
	n := int(v)
	if _, greatest := ends(f.Bits); n > greatest {
		n -= 2 * (greatest + 1)
	}
	return n
}

// unpackWords is what bytes are, unpacked, by the chapter's words.
func unpackWords(f Form, channels int, b []byte) [][]int {
	l, text := make([][]int, channels), hex.EncodeToString(b)
	for i := 0; len(text) > 0; i++ {
		digits := f.Bits / 4
		l[i%channels] = append(l[i%channels], numberWords(f, text[:digits]))
		text = text[digits:]
	}
	return l
}

// anySample gives samples at both ends, around 0 and in between.
func anySample(rnd *rand.Rand, f Form) int {
	least, greatest := ends(f.Bits)
	switch rnd.Intn(8) {
	case 0:
		return least + rnd.Intn(2)
	case 1:
		return greatest - rnd.Intn(2)
	case 2:
		return rnd.Intn(5) - 2
	}
	return least + rnd.Intn(greatest-least+1)
}

// anyChannels are so many, each of so many samples.
func anyChannels(rnd *rand.Rand, f Form, channels, samples int) [][]int {
	l := make([][]int, channels)
	for c := range l {
		for range samples {
			l[c] = append(l[c], anySample(rnd, f))
		}
	}
	return l
}

func anyBytes(rnd *rand.Rand, length int) []byte {
	b := make([]byte, length)
	rnd.Read(b)
	return b
}

// same tells whether channels are the same; none and an empty list are.
func same(a, b [][]int) bool {
	return slices.EqualFunc(a, b, func(x, y []int) bool { return slices.Equal(x, y) })
}

func clone(l [][]int) [][]int {
	out := make([][]int, len(l))
	for c := range l {
		out[c] = slices.Clone(l[c])
	}
	return out
}

// many are so many channels, all of them the same list.
func many(channels int, list []int) [][]int { return slices.Repeat([][]int{list}, channels) }

// checkPack packs channels as the chapter's words do, and unpacks them.
func checkPack(t *testing.T, f Form, l [][]int) {
	t.Helper()
	if e := Check(f, l); e != api.OK {
		t.Fatalf("P5.1: Check(%v, %v): %d", f, l, e)
	}
	b, e := Pack(f, l)
	if got, want := hex.EncodeToString(b), packWords(f, l); got != want || e != api.OK {
		t.Fatalf("P5.1: Pack(%v, %v): %s, %d, want %s", f, l, got, e, want)
	}
	if m, e := Unpack(f, len(l), b); e != api.OK || !same(m, l) {
		t.Fatalf("P5.2: %v, packed as %v, is unpacked as %v, %d", l, f, m, e)
	}
}

// checkUnpack unpacks bytes as the chapter's words do, and packs them again.
func checkUnpack(t *testing.T, f Form, channels int, b []byte) {
	t.Helper()
	l, e := Unpack(f, channels, b)
	if want := unpackWords(f, channels, b); e != api.OK || !same(l, want) {
		t.Fatalf("P5.1: Unpack(%v, %d, %x): %v, %d, want %v", f, channels, b, l, e, want)
	}
	if again, e := Pack(f, l); e != api.OK || !slices.Equal(again, b) {
		t.Fatalf("P5.2: %x, unpacked as %v, is packed as %x, %d", b, f, again, e)
	}
}
