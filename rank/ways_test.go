package rank

import (
	"container/heap"
	"go/ast"
	"go/parser"
	"go/token"
	"math/rand"
	"testing"
)

func TestTheLeastChannelComesOutFirst(t *testing.T) {
	rnd := rand.New(rand.NewSource(17))
	for range 200 {
		h := &next{}
		for _, channel := range rnd.Perm(8) {
			heap.Push(h, channel)
		}
		for want := range 8 {
			if got := h.least(); got != want {
				t.Fatalf("Ways: %d comes out ahead of %d", got, want)
			}
		}
	}
}

func TestChannelsAreAdmittedByTheirMaster(t *testing.T) {
	h := &next{}
	h.admit([]int{2, -1, 0, 2, -1, 4}, 2)
	if h.Len() != 2 || h.least() != 0 || h.least() != 3 {
		t.Error("Ways: behind channel 2 others may stand than those whose master it is")
	}
	h.admit([]int{2, -1, 0, 2, -1, 4}, -1)
	if h.Len() != 2 || h.least() != 1 || h.least() != 4 {
		t.Error("Ways: at first others may stand than those without a master")
	}
}

func TestWhatIsPutIntoTheHeapIsAsserted(t *testing.T) {
	defer func() {
		if recover() == nil {
			t.Error("Ways: what is no channel is put into the heap")
		}
	}()
	(&next{}).Push("none")
}

// source gives the package's functions and methods by their names.
func source(t *testing.T) map[string]*ast.FuncDecl {
	t.Helper()
	f, err := parser.ParseFile(token.NewFileSet(), "rank.go", nil, 0)
	if err != nil {
		t.Fatal(err)
	}
	out := map[string]*ast.FuncDecl{}
	for _, d := range f.Decls {
		if x, ok := d.(*ast.FuncDecl); ok {
			out[x.Name.Name] = x
		}
	}
	return out
}

// has tells whether something of a function is such.
func has(f *ast.FuncDecl, such func(ast.Node) bool) bool {
	found := false
	if f != nil {
		ast.Inspect(f.Body, func(n ast.Node) bool {
			found = found || such(n)
			return true
		})
	}
	return found
}

// isCallOf tells whether that is a call of something's function or method.
func isCallOf(n ast.Node, of, name string) bool {
	c, ok := n.(*ast.CallExpr)
	if !ok {
		return false
	}
	s, ok := c.Fun.(*ast.SelectorExpr)
	if !ok || s.Sel.Name != name {
		return false
	}
	x, ok := s.X.(*ast.Ident)
	return ok && x.Name == of
}

func TestWhatComesOutOfTheHeapIsAsserted(t *testing.T) {
	if !has(source(t)["least"], func(n ast.Node) bool {
		a, ok := n.(*ast.TypeAssertExpr)
		return ok && isCallOf(a.X, "heap", "Pop")
	}) {
		t.Error("Ways: what comes out of the heap isn't asserted")
	}
}

func TestChannelsThatMayStandNextAreInAHeap(t *testing.T) {
	all := source(t)
	for _, c := range []struct{ in, of, name string }{
		{"Sorted", "h", "admit"}, {"Sorted", "h", "least"}, {"admit", "heap", "Push"},
	} {
		if !has(all[c.in], func(n ast.Node) bool { return isCallOf(n, c.of, c.name) }) {
			t.Errorf("Ways: %s calls no %s", c.in, c.name)
		}
	}
}
