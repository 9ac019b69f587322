package tree

import (
	"fmt"
	"testing"
)

func TestPaths(t *testing.T) {
	for _, c := range []struct {
		text string
		size int
		want string
	}{
		{"", 1, `"":1 `}, {"", 16, `"":16 `}, {"", 33, `"":33 `}, {"0", 32, `"":32 `}, {"0", 1024, `"":1024 `},
		{"1", 32, `"0":16 "1":16 `}, {"1", 96, `"0":48 "1":48 `},
		{"110", 64, `"00":16 "01":16 "1":32 `}, {"101", 64, `"0":32 "10":16 "11":16 `},
		{"1111000", 512, `"0000":32 "0001":32 "001":64 "01":128 "1":256 `},
		{"1010100", 1024, `"0":512 "10":256 "110":128 "111":128 `}, {"1010101", 512, `"0":256 "10":128 "110":64 "1110":32 "1111":32 `},
		{"1010101", 1024, `"0":512 "10":256 "110":128 "1110":64 "1111":64 `},
	} {
		if given := pathsText(c.text, c.size); given != c.want {
			t.Errorf("P9.1: Paths of %q of size %d: %s, want %s", c.text, c.size, given, c.want)
		}
	}
}

// As often as it is gone through, within itself too.
func TestPathsAgain(t *testing.T) {
	for _, x := range allOf(1024).list[:60] {
		paths, want := Paths(x.text, 1024), pathsWords(x)
		for range 3 {
			given := ""
			for path, n := range paths {
				given += fmt.Sprintf("%q:%d ", path, n)
			}
			if given != want {
				t.Fatalf("R9: Paths of %s again: %s, want %s", x.text, given, want)
			}
		}
		given := ""
		for path, n := range paths {
			within := ""
			for path, n := range paths {
				within += fmt.Sprintf("%q:%d ", path, n)
			}
			if within != want {
				t.Fatalf("R9: Paths of %s within itself: %s, want %s", x.text, within, want)
			}
			given += fmt.Sprintf("%q:%d ", path, n)
		}
		if given != want {
			t.Fatalf("R9: Paths of %s around itself: %s, want %s", x.text, given, want)
		}
	}
}

// Its consumer says no at each place: it gives no more, and begins anew when
// it is gone through again.
func TestPathsEndAtEachPlace(t *testing.T) {
	for _, size := range sizes() {
		for _, x := range allOf(size).list {
			paths := Paths(x.text, size)
			for last := range x.leaves {
				count := 0
				paths(func(path string, n int) bool {
					if count > last || path != x.paths[count] || n != x.leaves[count] {
						t.Fatalf("R9: Paths of %q of size %d, ended at place %d, gives %q:%d at place %d", x.text, size, last, path, n, count)
					}
					count++
					return count <= last
				})
				if count != last+1 {
					t.Fatalf("R9: Paths of %q of size %d, ended at place %d, gives %d", x.text, size, last, count)
				}
			}
		}
	}
}

func TestPathsOfWhatIsNoTree(t *testing.T) {
	for _, c := range []struct {
		text string
		size int
	}{
		{"", 32}, {"1", 64}, {"10", 64}, {"1111", 512}, {"00", 32}, {"10", 32}, {"1000", 64}, {"0", 16}, {"1", 48}, {"2", 32}, {"102", 64}, {"120", 64},
		{"", 0}, {"0", 0}, {"", -1}, {"0", -32}, {"", 1025}, {"0", 1056}, {"1", 1056}, {"0", 2048},
	} {
		if given := pathsText(c.text, c.size); given != "" {
			t.Errorf("P9.1: Paths of %q of size %d: %s, want none", c.text, c.size, given)
		}
	}
	for _, size := range outside() {
		if given := pathsText("", size) + pathsText("0", size) + pathsText("1", size); given != "" {
			t.Errorf("P9.1: Paths of size %d: %s, want none", size, given)
		}
	}
}
