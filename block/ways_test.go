package block

import (
	"go/ast"
	"go/parser"
	"go/token"
	"testing"
)

// source gives the package's functions and methods by their names.
func source(t *testing.T) map[string]*ast.FuncDecl {
	t.Helper()
	f, err := parser.ParseFile(token.NewFileSet(), "block.go", nil, 0)
	if err != nil {
		t.Fatal(err)
	}
	out := map[string]*ast.FuncDecl{}
	for _, d := range f.Decls {
		if x, ok := d.(*ast.FuncDecl); ok {
			out[x.Name.Name] = x
		}
	}
	return out
}

// finds tells whether a function has a call of which that holds.
func finds(f *ast.FuncDecl, holds func(*ast.CallExpr) bool) bool {
	found := false
	if f != nil {
		ast.Inspect(f, func(n ast.Node) bool {
			c, ok := n.(*ast.CallExpr)
			found = found || ok && holds(c)
			return true
		})
	}
	return found
}

// selects tells whether an expression is a thing's method of that name.
func selects(e ast.Expr, method string) bool {
	s, ok := e.(*ast.SelectorExpr)
	return ok && s.Sel.Name == method
}

func TestWhatIsNoSampleIsFoundByAMethodValue(t *testing.T) {
	all := source(t)
	if !finds(all["check"], func(c *ast.CallExpr) bool {
		for _, a := range c.Args {
			if selects(a, "lacks") {
				return true
			}
		}
		return false
	}) {
		t.Error("Ways: check hands on no method value that finds what is no sample")
	}
	for _, name := range []string{"Samples", "Plain", "Normal"} {
		if !finds(all[name], func(c *ast.CallExpr) bool { return selects(c.Fun, "check") }) {
			t.Errorf("Ways: %s doesn't check samples by it", name)
		}
	}
}

// A method value is of its depth, whatever it is handed to.
func TestADepthLacks(t *testing.T) {
	for d := depth(8); d <= 26; d++ {
		lacks := d.lacks
		half := 1 << (d - 1)
		for n, want := range map[int]bool{0: false, -half: false, half - 1: false, -half - 1: true, half: true} {
			if lacks(n) != want {
				t.Errorf("Ways: depth %d lacks %d: %t", d, n, lacks(n))
			}
		}
	}
}
