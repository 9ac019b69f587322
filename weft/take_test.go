package weft

import (
	"math"
	"math/rand"
	"strings"
	"testing"

	"sackbut/api"
	"sackbut/pipe"
)

// checkTake holds Take of bits against the words; the bits end with a byte.
func checkTake(t *testing.T, what, bits string, channels int) api.Errno {
	t.Helper()
	want, behind, wantErr := takeWords(bits, channels)
	r := readerOf(bits)
	if got := Take(r, channels); got != want || r.Fail() != wantErr {
		t.Fatalf("P11.1: %s: Take of %s among %d: %v, fails with %d, want %v, %d", what, bits, channels, got, r.Fail(), want, wantErr)
	}
	if wantErr != api.OK {
		checkNothing(t, what+", again", r, 8, wantErr)
	} else if r.Left() != len(behind) {
		t.Fatalf("P11.1: %s: Take of %s among %d leaves %d bits, want %d", what, bits, channels, r.Left(), len(behind))
	}
	return wantErr
}

// checkNothing: there is no weave, and the reader fails so.
func checkNothing(t *testing.T, what string, r *pipe.Reader, channels int, want api.Errno) {
	t.Helper()
	if w := Take(r, channels); w != (api.Weave{}) || r.Fail() != want {
		t.Fatalf("P11.1: %s: Take among %d: %v, fails with %d, want nothing, %d", what, channels, w, r.Fail(), want)
	}
}

func TestTake(t *testing.T) {
	for _, c := range []struct {
		what     string
		bits     string
		channels int
		want     api.Weave
		err      api.Errno
	}{
		{"none", "0", 2, api.Weave{}, api.OK},
		{"none, bits behind", "01111111", 1, api.Weave{}, api.OK},
		{"none among no channels", "0", 0, api.Weave{}, api.OK},
		{"the chapter's", "1" + "000" + "00000" + "01111" + "00000", 2, some(0, 0, 15, 0), api.OK},
		{"the least Gains", "1" + "000" + "10000" + "10000" + "10000", 1, some(0, -16, -16, -16), api.OK},
		{"the greatest Gains", "1" + "111" + "01111" + "01111" + "01111", 8, some(7, 15, 15, 15), api.OK},
		{"Gains in their order", "1" + "101" + "00001" + "11111" + "00010", 6, some(5, 1, -1, 2), api.OK},
		{"more channels than there may be", "1" + "111" + "00000" + "00001" + "00000", math.MaxInt, some(7, 0, 1, 0), api.OK},

		{"nothing", "", 8, api.Weave{}, api.ErrEnd},
		{"a bit alone", "1", 8, api.Weave{}, api.ErrEnd},
		{"a bit alone, among no channels", "1", 0, api.Weave{}, api.ErrEnd},
		{"a bit less", "1" + "111" + "01111" + "01111" + "0111", 8, api.Weave{}, api.ErrEnd},
		{"no last Gain", "1" + "111" + "01111" + "01111", 8, api.Weave{}, api.ErrEnd},
		{"a master that isn't there, bits that end", "1" + "111" + "01111", 2, api.Weave{}, api.ErrEnd},
		{"Gains of 0, a bit less", "1" + "000" + "00000" + "00000" + "0000", 2, api.Weave{}, api.ErrEnd},
		{"Gains of 0", "1" + "000" + "00000" + "00000" + "00000", 2, api.Weave{}, api.ErrForm},
		{"Gains of 0, a bit 1 behind", "1" + "000" + "00000" + "00000" + "00000" + "1", 2, api.Weave{}, api.ErrForm},
		{"a master that isn't there", "1" + "010" + "00000" + "00001" + "00000", 2, api.Weave{}, api.ErrForm},
		{"the last master, one too few", "1" + "111" + "00000" + "00001" + "00000", 7, api.Weave{}, api.ErrForm},
		{"no channels", "1" + "000" + "00000" + "00001" + "00000", 0, api.Weave{}, api.ErrForm},
		{"fewer channels than none", "1" + "000" + "00000" + "00001" + "00000", -1, api.Weave{}, api.ErrForm},
	} {
		r := readerOf(c.bits)
		if w := Take(r, c.channels); w != c.want || r.Fail() != c.err {
			t.Errorf("P11.1: %s: Take of %s among %d: %v, fails with %d, want %v, %d", c.what, c.bits, c.channels, w, r.Fail(), c.want, c.err)
		}
		checkTake(t, c.what, c.bits, c.channels)
	}
}

// Each master's place, among each number of channels.
func TestTakeOfEachMaster(t *testing.T) {
	for master := range 8 {
		for channels := -1; channels < 12; channels++ {
			want := api.OK
			if master >= channels {
				want = api.ErrForm
			}
			bits := "1" + binary(master, 3) + "00000" + "01000" + "11000" + "10110"
			if e := checkTake(t, "a master", bits, channels); e != want {
				t.Errorf("P11.1: Take of master %d among %d fails with %d, want %d", master, channels, e, want)
			}
		}
	}
}

// All Gains that bits may have.
func TestTakeOfAllGains(t *testing.T) {
	none := 0
	for n := range 1 << 15 {
		if checkTake(t, "any Gains", "1001"+binary(n, 15), 2) != api.OK {
			none++
		}
	}
	if none != 1 {
		t.Errorf("P11.1: of %d Gains there is no weave", none)
	}
}

// Each weave, ended ahead of each of its bits, whether it is good or not.
func TestTakeWhereBitsEndTooEarly(t *testing.T) {
	rnd := rand.New(rand.NewSource(9))
	for range 300 {
		bits := "1" + binary(rnd.Intn(1<<18), 18)
		if rnd.Intn(3) == 0 {
			bits = bits[:4] + strings.Repeat("0", 15)
		}
		for end := range len(bits) {
			for _, channels := range []int{8, 1, 3, 0} {
				checkNothing(t, "bits that end: "+bits[:end], readerOf(bits[:end]), channels, api.ErrEnd)
			}
		}
	}
}

func TestTakeOfAReaderThatFailed(t *testing.T) {
	for e := api.ErrRange; e <= api.ErrKind; e++ {
		for _, bits := range []string{"", "0", strings.Repeat("0", 40), "1" + strings.Repeat("0", 39), strings.Repeat("1", 40)} {
			for _, channels := range []int{8, 2, 0, -1} {
				r := readerOf(bits)
				r.Give(e)
				checkNothing(t, "a reader that failed", r, channels, e)
			}
		}
	}
}

// A reader that failed has nothing left, whatever stands behind the weave.
func TestAFailedReaderHasNothingLeft(t *testing.T) {
	for _, bits := range []string{"1000" + strings.Repeat("0", 36), "1111" + strings.Repeat("1", 36)} {
		r := readerOf(bits)
		if Take(r, 7); r.Fail() != api.ErrForm || r.Take(8) != 0 || r.Left() != 0 || r.End() != api.ErrForm {
			t.Errorf("P11.1: of %s the reader failed, and has bits", bits)
		}
	}
}

func TestTakeOfAnyBits(t *testing.T) {
	rnd := rand.New(rand.NewSource(10))
	count := map[api.Errno]int{}
	for range 5000 {
		bits := binary(rnd.Intn(1<<28), 28)[rnd.Intn(28):]
		if rnd.Intn(3) == 0 {
			bits = "1" + bits
		}
		count[checkTake(t, "any bits", bits, rnd.Intn(10))]++
	}
	for _, e := range []api.Errno{api.OK, api.ErrForm, api.ErrEnd} {
		if count[e] < 100 {
			t.Errorf("P11.1: any bits have the error %d %d times", e, count[e])
		}
	}
}

// What is put is taken, behind so many bits, and what is put behind it too.
func TestWhatIsPutIsTaken(t *testing.T) {
	rnd := rand.New(rand.NewSource(11))
	for range 1000 {
		ahead, behind, n := rnd.Intn(20), rnd.Intn(20), rnd.Intn(1<<19)
		var weaves []api.Weave
		var p pipe.Writer
		p.Put(uint64(n%(1<<ahead)), ahead)
		for range 1 + rnd.Intn(4) {
			w := anyWeave(rnd)
			weaves = append(weaves, w)
			if !Put(&p, w, max(w.Master+1, rnd.Intn(9))) {
				t.Fatalf("P11.2: %v can't be put", w)
			}
		}
		p.Put(uint64(n%(1<<behind)), behind)

		r := pipe.Open(p.Bytes())
		if got := r.Take(ahead); got != uint64(n%(1<<ahead)) {
			t.Fatalf("P11.2: ahead of weaves there is %d", got)
		}
		for _, w := range weaves {
			if got := Take(r, 8); got != w || r.Fail() != api.OK {
				t.Fatalf("P11.2: %v comes back as %v, %d", w, got, r.Fail())
			}
		}
		if got := r.Take(behind); got != uint64(n%(1<<behind)) || r.End() != api.OK {
			t.Fatalf("P11.2: behind weaves there is %d, and the reader ends with %d", got, r.End())
		}
	}
}

// Behind each number of bits, by a reader that stands within a byte.
func TestTakeBehindEachNumberOfBits(t *testing.T) {
	rnd := rand.New(rand.NewSource(12))
	for range 200 {
		w := anyWeave(rnd)
		bits := bitsWords(w)
		for ahead := range 17 {
			r := readerBehind(ahead, bits+"0110")
			left := r.Left() - len(bits)
			if got := Take(r, 8); got != w || r.Left() != left || r.Fail() != api.OK || r.Take(4) != 6 {
				t.Fatalf("P11.2: behind %d bits %v comes back as %v, %d bits left, want %d", ahead, w, got, r.Left(), left)
			}
		}
	}
}
