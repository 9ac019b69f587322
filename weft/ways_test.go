package weft

import (
	"go/ast"
	"go/parser"
	"go/token"
	"reflect"
	"testing"
)

// source gives the package's functions and methods by their names.
func source(t *testing.T) map[string]*ast.FuncDecl {
	t.Helper()
	f, err := parser.ParseFile(token.NewFileSet(), "weft.go", nil, 0)
	if err != nil {
		t.Fatal(err)
	}
	out := map[string]*ast.FuncDecl{}
	for _, d := range f.Decls {
		if x, ok := d.(*ast.FuncDecl); ok {
			out[x.Name.Name] = x
		}
	}
	return out
}

// has tells whether something of a function is such.
func has(f *ast.FuncDecl, such func(ast.Node) bool) bool {
	found := false
	if f != nil {
		ast.Inspect(f.Body, func(n ast.Node) bool {
			found = found || such(n)
			return true
		})
	}
	return found
}

func callsMethod(f *ast.FuncDecl, method string) bool {
	return has(f, func(n ast.Node) bool {
		c, ok := n.(*ast.CallExpr)
		if !ok {
			return false
		}
		s, ok := c.Fun.(*ast.SelectorExpr)
		return ok && s.Sel.Name == method
	})
}

func isLiteralOf(e ast.Expr, name string) bool {
	l, ok := ast.Unparen(e).(*ast.CompositeLit)
	if !ok {
		return false
	}
	x, ok := l.Type.(*ast.Ident)
	return ok && x.Name == name
}

func TestGainsAreAnArray(t *testing.T) {
	if g := reflect.TypeFor[gains](); g.Kind() != reflect.Array || g.Len() != 3 || g.Elem().Kind() != reflect.Int {
		t.Errorf("Ways: gains are a %v", g)
	}
	all := source(t)
	if !callsMethod(all["Rest"], "foreseen") || !callsMethod(all["Back"], "foreseen") || !callsMethod(all["Good"], "areGood") {
		t.Error("Ways: Rest, Back or Good doesn't lean on gains")
	}
}

func TestGainsAreCompared(t *testing.T) {
	if !has(source(t)["areGood"], func(n ast.Node) bool {
		b, ok := n.(*ast.BinaryExpr)
		return ok && b.Op == token.NEQ && isLiteralOf(b.Y, "gains")
	}) {
		t.Error("Ways: areGood compares no gains")
	}
}
