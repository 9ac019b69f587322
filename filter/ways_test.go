package filter

import (
	"container/heap"
	"go/ast"
	"go/parser"
	"go/token"
	"math/rand"
	"testing"

	"sackbut/wide"
)

func TestTrialsComeOutInOrder(t *testing.T) {
	rnd := rand.New(rand.NewSource(12))
	for range 200 {
		h := &trials{}
		for _, n := range rnd.Perm(17) {
			heap.Push(h, trial{n, wide.Sum{High: rnd.Uint64() % 2, Low: rnd.Uint64() % 3}})
		}
		last := h.first()
		for h.Len() > 0 {
			next := h.first()
			if next.sum.Less(last.sum) || next.sum == last.sum && next.indices <= last.indices {
				t.Fatalf("Ways: %v comes behind %v", next, last)
			}
			last = next
		}
	}
}

func TestWhatIsPutIntoTheHeapIsAsserted(t *testing.T) {
	defer func() {
		if recover() == nil {
			t.Error("Ways: what is no trial is put into the heap")
		}
	}()
	(&trials{}).Push("none")
}

// source gives the package's functions and methods by their names.
func source(t *testing.T) map[string]*ast.FuncDecl {
	t.Helper()
	f, err := parser.ParseFile(token.NewFileSet(), "filter.go", nil, 0)
	if err != nil {
		t.Fatal(err)
	}
	out := map[string]*ast.FuncDecl{}
	for _, d := range f.Decls {
		if x, ok := d.(*ast.FuncDecl); ok {
			out[x.Name.Name] = x
		}
	}
	return out
}

// calls tells whether a function calls that of a package.
func calls(f *ast.FuncDecl, of, name string) bool {
	found := false
	ast.Inspect(f.Body, func(n ast.Node) bool {
		c, ok := n.(*ast.CallExpr)
		if !ok {
			return true
		}
		if s, ok := c.Fun.(*ast.SelectorExpr); ok && s.Sel.Name == name {
			x, ok := s.X.(*ast.Ident)
			found = found || ok && x.Name == of
		}
		return true
	})
	return found
}

// handsOn tells whether a function hands a method of that name on, as a value,
// to that function.
func handsOn(f *ast.FuncDecl, to, name string) bool {
	found := false
	ast.Inspect(f.Body, func(n ast.Node) bool {
		c, ok := n.(*ast.CallExpr)
		if !ok {
			return true
		}
		if x, ok := c.Fun.(*ast.Ident); !ok || x.Name != to {
			return true
		}
		for _, arg := range c.Args {
			s, ok := arg.(*ast.SelectorExpr)
			found = found || ok && s.Sel.Name == name
		}
		return true
	})
	return found
}

func TestWhatIsNotForeseenIsToldByAMethodValue(t *testing.T) {
	all := source(t)
	if f := all["Residuals"]; f == nil || !handsOn(f, "all", "unforeseen") {
		t.Error("Ways: Residuals doesn't hand a method value on")
	}
	if f := all["Least"]; f == nil || !handsOn(f, "sizes", "unforeseen") {
		t.Error("Ways: Least doesn't hand a method value on")
	}
}

func TestTrialsStandInAHeap(t *testing.T) {
	all := source(t)
	if f := all["Least"]; f == nil || !calls(f, "heap", "Push") {
		t.Error("Ways: Least puts nothing into a heap")
	}
	if f := all["first"]; f == nil || !calls(f, "heap", "Pop") {
		t.Error("Ways: nothing comes out of the heap")
	}
}
