package lag

import (
	"go/ast"
	"go/parser"
	"go/token"
	"reflect"
	"testing"
)

// declared is a function or method of the package's source, by its name.
func declared(t *testing.T, name string) *ast.FuncDecl {
	t.Helper()
	f, err := parser.ParseFile(token.NewFileSet(), "lag.go", nil, 0)
	if err != nil {
		t.Fatal(err)
	}
	for _, d := range f.Decls {
		if x, ok := d.(*ast.FuncDecl); ok && x.Name.Name == name {
			return x
		}
	}
	t.Fatalf("Ways: there is no function %s", name)
	return nil
}

// has tells whether something of a function is such.
func has(f *ast.FuncDecl, such func(ast.Node) bool) bool {
	found := false
	ast.Inspect(f.Body, func(n ast.Node) bool {
		found = found || such(n)
		return true
	})
	return found
}

// isOf tells whether an expression is this name of that variable.
func isOf(e ast.Expr, variable, name string) bool {
	s, ok := e.(*ast.SelectorExpr)
	if !ok || s.Sel.Name != name {
		return false
	}
	x, ok := s.X.(*ast.Ident)
	return ok && x.Name == variable
}

func TestATrialEmbedsItsTerm(t *testing.T) {
	f, ok := reflect.TypeFor[trial]().FieldByName("Term")
	if !ok || !f.Anonymous || f.Type != reflect.TypeFor[Term]() {
		t.Error("Ways: a trial embeds no term")
	}
}

func TestATrialPromotesItsTermsWays(t *testing.T) {
	if x := (trial{Term: Term{2, 8}}); x.taken(-1) != -1 || x.Lag != 2 || !x.Good() {
		t.Errorf("Ways: %v has other ways than its term", x)
	}
	calls := has(declared(t, "tried"), func(n ast.Node) bool {
		c, ok := n.(*ast.CallExpr)
		return ok && isOf(c.Fun, "t", "taken")
	})
	if !calls {
		t.Error("Ways: a trial doesn't lean on its term's ways")
	}
}

func TestTermsAreCompared(t *testing.T) {
	compares := has(declared(t, "Good"), func(n ast.Node) bool {
		b, ok := n.(*ast.BinaryExpr)
		if !ok || b.Op != token.EQL {
			return false
		}
		x, ok := ast.Unparen(b.Y).(*ast.CompositeLit)
		return ok && x.Type.(*ast.Ident).Name == "Term"
	})
	if !compares {
		t.Error("Ways: Good compares no terms")
	}
}
