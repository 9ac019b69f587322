package lattice

import (
	"go/ast"
	"go/parser"
	"go/token"
	"testing"
)

// declared is a function of the package's source, by its name.
func declared(t *testing.T, name string) *ast.FuncDecl {
	t.Helper()
	f, err := parser.ParseFile(token.NewFileSet(), "lattice.go", nil, 0)
	if err != nil {
		t.Fatal(err)
	}
	for _, d := range f.Decls {
		if x, ok := d.(*ast.FuncDecl); ok && x.Name.Name == name {
			return x
		}
	}
	t.Fatalf("Ways: there is no function %s", name)
	return nil
}

// calls tells whether an expression is a call of that function.
func calls(e ast.Expr, name string) bool {
	c, ok := e.(*ast.CallExpr)
	if !ok {
		return false
	}
	x, ok := c.Fun.(*ast.Ident)
	return ok && x.Name == name
}

func TestCoefficientsAreAnIteratorWhichIsGoneThrough(t *testing.T) {
	found := false
	ast.Inspect(declared(t, "Coefs"), func(n ast.Node) bool {
		r, ok := n.(*ast.RangeStmt)
		found = found || ok && calls(r.X, "Steps")
		return true
	})
	if !found {
		t.Error("Ways: Coefs doesn't go through the coefficients behind each number of indices")
	}
}
