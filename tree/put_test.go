package tree

import (
	"testing"

	"sackbut/pipe"
)

// What stands in the writer stays, at no too.
func TestPutBehindBits(t *testing.T) {
	for _, c := range []struct {
		text string
		size int
		bits string
		want bool
	}{
		{"0", 32, "1010", true}, {"1", 32, "1011", true}, {"", 16, "101", true}, {"", 1023, "101", true},
		{"110", 64, "101110", true}, {"1111000", 512, "1011111000", true}, {"100", 1024, "101100", true},
		{"", 32, "101", false}, {"11", 32, "101", false}, {"11", 64, "101", false}, {"102", 64, "101", false}, {"0", 16, "101", false}, {"1", 48, "101", false}, {"110 ", 64, "101", false},
		{"", 0, "101", false}, {"0", 0, "101", false}, {"", -1, "101", false}, {"0", -32, "101", false}, {"", 1025, "101", false}, {"0", 1056, "101", false}, {"1", 1056, "101", false}, {"0", 2048, "101", false},
	} {
		var w pipe.Writer
		w.Put(5, 3)
		if put := Put(&w, c.text, c.size); put != c.want || bitsOf(&w) != c.bits {
			t.Errorf("P9.1: Put of %q of size %d: %t, bits %s, want %t, %s", c.text, c.size, put, bitsOf(&w), c.want, c.bits)
		}
	}
}

func TestPutOfASizeOutside(t *testing.T) {
	for _, size := range outside() {
		for _, text := range []string{"", "0", "1", "100", "2"} {
			var w pipe.Writer
			if Put(&w, text, size) || w.Len() != 0 {
				t.Errorf("P9.1: Put of %q of size %d isn't no, or puts %d bits", text, size, w.Len())
			}
		}
	}
}
