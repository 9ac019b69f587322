package rice

import (
	"container/heap"
	"go/ast"
	"go/parser"
	"go/token"
	"math/rand"
	"testing"
)

func TestTrialsComeOutInOrder(t *testing.T) {
	rnd := rand.New(rand.NewSource(5))
	for range 200 {
		h := &trials{before: trial.better}
		for _, k := range rnd.Perm(25) {
			heap.Push(h, trial{k, rnd.Intn(6)})
		}
		last := h.first()
		for h.Len() > 0 {
			next := h.first()
			if next.total < last.total || next.total == last.total && next.parameter <= last.parameter {
				t.Fatalf("Ways: %v comes behind %v", next, last)
			}
			last = next
		}
	}
}

func TestTheHeapIsOrderedByWhatItIsHanded(t *testing.T) {
	worse := func(a, b trial) bool { return trial.better(b, a) }
	h := &trials{before: worse}
	for k := range 25 {
		heap.Push(h, trial{k, k % 5})
	}
	if x := h.first(); x != (trial{24, 4}) {
		t.Errorf("Ways: %v stands ahead", x)
	}
}

func TestWhatIsPutIntoTheHeapIsAsserted(t *testing.T) {
	defer func() {
		if recover() == nil {
			t.Error("Ways: what is no trial is put into the heap")
		}
	}()
	(&trials{before: trial.better}).Push("none")
}

// source gives the package's functions and methods by their names.
func source(t *testing.T) map[string]*ast.FuncDecl {
	t.Helper()
	f, err := parser.ParseFile(token.NewFileSet(), "rice.go", nil, 0)
	if err != nil {
		t.Fatal(err)
	}
	out := map[string]*ast.FuncDecl{}
	for _, d := range f.Decls {
		if x, ok := d.(*ast.FuncDecl); ok {
			out[x.Name.Name] = x
		}
	}
	return out
}

// has tells whether a function's body has a selector of this text.
func has(f *ast.FuncDecl, of, name string) bool {
	found := false
	ast.Inspect(f.Body, func(n ast.Node) bool {
		if s, ok := n.(*ast.SelectorExpr); ok && s.Sel.Name == name {
			x, ok := s.X.(*ast.Ident)
			found = found || ok && x.Name == of
		}
		return true
	})
	return found
}

func TestBestLeansOnItsWays(t *testing.T) {
	all := source(t)
	best := all["Best"]
	if best == nil || !has(best, "heap", "Push") {
		t.Error("Ways: Best puts nothing into a heap")
	}
	if best == nil || !has(best, "trial", "better") {
		t.Error("Ways: Best hands no method expression on")
	}
	if first := all["first"]; first == nil || !has(first, "heap", "Pop") {
		t.Error("Ways: nothing comes out of the heap")
	}
}
