package slide

import (
	"go/ast"
	"go/parser"
	"go/token"
	"slices"
	"testing"
)

func TestPartsOneBehindTheOther(t *testing.T) {
	l := []int{1, 2, 3, 4, 5, 6, 7, 8}
	for power, want := range [][][]int{
		{{1, 2, 3, 4, 5, 6, 7, 8}},
		{{1, 2, 3, 4}, {5, 6, 7, 8}},
		{{1, 2}, {3, 4}, {5, 6}, {7, 8}},
		{{1}, {2}, {3}, {4}, {5}, {6}, {7}, {8}},
	} {
		parts := cut{l, power}.parts()
		for range 2 {
			at := 0
			for i, part := range parts {
				if i != at || !slices.Equal(part, want[i]) {
					t.Errorf("R9: P %d: part %d is %v at %d, want %v", power, at, part, i, want[at])
				}
				at++
			}
			if at != len(want) {
				t.Errorf("R9: P %d: %d parts, want %d", power, at, len(want))
			}
		}
	}
}

// counter tells parts, and counts how often it was asked.
type counter struct{ asked int }

func (c *counter) tell(i int) []int {
	c.asked++
	return []int{i}
}

func TestNoMorePartsBehindANo(t *testing.T) {
	for stop := range 5 {
		var c counter
		for i, part := range each(5, c.tell) {
			if !slices.Equal(part, []int{i}) {
				t.Errorf("Ways: part %d is %v", i, part)
			}
			if i == stop {
				break
			}
		}
		if c.asked != stop+1 {
			t.Errorf("R9: %d parts were told, want %d", c.asked, stop+1)
		}
	}
}

// source gives the package's functions and methods by their names.
func source(t *testing.T) map[string]*ast.FuncDecl {
	t.Helper()
	f, err := parser.ParseFile(token.NewFileSet(), "slide.go", nil, 0)
	if err != nil {
		t.Fatal(err)
	}
	out := map[string]*ast.FuncDecl{}
	for _, d := range f.Decls {
		if x, ok := d.(*ast.FuncDecl); ok {
			out[x.Name.Name] = x
		}
	}
	return out
}

// calls tells whether an expression is a call of a method of this name.
func calls(e ast.Expr, method string) bool {
	c, ok := e.(*ast.CallExpr)
	if !ok {
		return false
	}
	s, ok := c.Fun.(*ast.SelectorExpr)
	return ok && s.Sel.Name == method
}

// goesThrough tells whether a function ranges over what that method answers.
func goesThrough(f *ast.FuncDecl, method string) bool {
	found := false
	ast.Inspect(f.Body, func(n ast.Node) bool {
		r, ok := n.(*ast.RangeStmt)
		found = found || ok && calls(r.X, method)
		return true
	})
	return found
}

// handsOn tells whether a method hands that method of its receiver on, as a
// value.
func handsOn(f *ast.FuncDecl, method string) bool {
	self, found := f.Recv.List[0].Names[0].Name, false
	ast.Inspect(f.Body, func(n ast.Node) bool {
		c, ok := n.(*ast.CallExpr)
		if !ok {
			return true
		}
		for _, a := range c.Args {
			if s, ok := a.(*ast.SelectorExpr); ok && s.Sel.Name == method {
				x, ok := s.X.(*ast.Ident)
				found = found || ok && x.Name == self
			}
		}
		return true
	})
	return found
}

func TestPartsAreAnIterator(t *testing.T) {
	all := source(t)
	for _, name := range []string{"Bits", "Put", "Take", "bestOf"} {
		if f := all[name]; f == nil || !goesThrough(f, "parts") {
			t.Errorf("Ways: %s doesn't go through a list's parts", name)
		}
	}
	if f := all["parts"]; f == nil || !handsOn(f, "part") {
		t.Error("Ways: no method value tells each part")
	}
}
