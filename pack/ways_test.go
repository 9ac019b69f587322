package pack

import (
	"go/ast"
	"go/parser"
	"go/token"
	"testing"
)

func TestPlacesOneBehindTheOther(t *testing.T) {
	for f, want := range map[Form][]place{
		{8, false}:  {{0, 0, 0}, {1, 0, 0}, {0, 1, 0}, {1, 1, 0}},
		{8, true}:   {{0, 0, 0}, {1, 0, 0}, {0, 1, 0}, {1, 1, 0}},
		{16, false}: {{0, 0, 0}, {0, 0, 8}, {1, 0, 0}, {1, 0, 8}, {0, 1, 0}, {0, 1, 8}, {1, 1, 0}, {1, 1, 8}},
		{16, true}:  {{0, 0, 8}, {0, 0, 0}, {1, 0, 8}, {1, 0, 0}, {0, 1, 8}, {0, 1, 0}, {1, 1, 8}, {1, 1, 0}},
		{24, false}: {{0, 0, 0}, {0, 0, 8}, {0, 0, 16}, {1, 0, 0}, {1, 0, 8}, {1, 0, 16}, {0, 1, 0}, {0, 1, 8}, {0, 1, 16}, {1, 1, 0}, {1, 1, 8}, {1, 1, 16}},
		{24, true}:  {{0, 0, 16}, {0, 0, 8}, {0, 0, 0}, {1, 0, 16}, {1, 0, 8}, {1, 0, 0}, {0, 1, 16}, {0, 1, 8}, {0, 1, 0}, {1, 1, 16}, {1, 1, 8}, {1, 1, 0}},
	} {
		places := f.places(2, 2)
		for range 2 {
			count := 0
			for i, p := range places {
				if i != count || i >= len(want) || p != want[i] {
					t.Fatalf("R9: %v: byte %d comes as %d, at %v", f, count, i, p)
				}
				count++
			}
			if count != len(want) {
				t.Errorf("R9: %v: %d bytes, want %d", f, count, len(want))
			}
		}
	}
}

func TestNoMorePlacesBehindANo(t *testing.T) {
	for _, f := range forms() {
		for stop := range 2 * 3 * f.Bits / 8 {
			asked := 0
			f.places(2, 3)(func(i int, _ place) bool {
				asked++
				return i != stop
			})
			if asked != stop+1 {
				t.Errorf("R9: %v: %d places were given, want %d", f, asked, stop+1)
			}
		}
	}
}

// source gives the package's functions and methods by their names.
func source(t *testing.T) map[string]*ast.FuncDecl {
	t.Helper()
	f, err := parser.ParseFile(token.NewFileSet(), "pack.go", nil, 0)
	if err != nil {
		t.Fatal(err)
	}
	out := map[string]*ast.FuncDecl{}
	for _, d := range f.Decls {
		if x, ok := d.(*ast.FuncDecl); ok {
			out[x.Name.Name] = x
		}
	}
	return out
}

// isMethod tells whether an expression is that method of a form f.
func isMethod(e ast.Expr, method string) bool {
	s, ok := e.(*ast.SelectorExpr)
	if !ok || s.Sel.Name != method {
		return false
	}
	x, ok := s.X.(*ast.Ident)
	return ok && x.Name == "f"
}

// finds tells whether a function has a node of which that holds.
func finds(f *ast.FuncDecl, holds func(ast.Node) bool) bool {
	found := false
	if f != nil {
		ast.Inspect(f, func(n ast.Node) bool {
			found = found || n != nil && holds(n)
			return true
		})
	}
	return found
}

func TestBytesAreGoneThroughByAnIterator(t *testing.T) {
	all := source(t)
	for _, name := range []string{"Pack", "Unpack"} {
		if !finds(all[name], func(n ast.Node) bool {
			r, ok := n.(*ast.RangeStmt)
			if !ok {
				return false
			}
			c, ok := r.X.(*ast.CallExpr)
			return ok && isMethod(c.Fun, "places")
		}) {
			t.Errorf("Ways: %s doesn't go through the bytes by an iterator", name)
		}
	}
}

func TestWhatIsNoSampleIsFoundByAMethodValue(t *testing.T) {
	if !finds(source(t)["Check"], func(n ast.Node) bool {
		c, ok := n.(*ast.CallExpr)
		if !ok {
			return false
		}
		for _, a := range c.Args {
			if isMethod(a, "lacks") {
				return true
			}
		}
		return false
	}) {
		t.Error("Ways: Check hands on no method value that finds what is no sample")
	}
}
