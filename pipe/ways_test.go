package pipe

import (
	"go/ast"
	"go/parser"
	"go/token"
	"testing"
)

// keeper keeps each bit that it is handed.
type keeper struct{ bits string }

func (k *keeper) keep(bit byte) { k.bits += string('0' + rune(bit)) }

func TestEachBitIsHandedOn(t *testing.T) {
	for _, c := range []struct {
		v    uint64
		n    int
		want string
	}{{0, 0, ""}, {1, 1, "1"}, {6, 3, "110"}, {6, 5, "00110"}, {0xf5, 4, "0101"}} {
		var k keeper
		eachBit(c.v, c.n, k.keep)
		if k.bits != c.want {
			t.Errorf("Ways: bits of %d: %s, want %s", c.v, k.bits, c.want)
		}
	}
}

// methodsOf gives the names of a type's methods, by what they are declared as.
func methodsOf(f *ast.File, kind string) map[string]*ast.FuncDecl {
	out := map[string]*ast.FuncDecl{}
	for _, d := range f.Decls {
		x, ok := d.(*ast.FuncDecl)
		if !ok || x.Recv == nil {
			continue
		}
		if p, ok := x.Recv.List[0].Type.(*ast.StarExpr); ok && p.X.(*ast.Ident).Name == kind {
			out[x.Name.Name] = x
		}
	}
	return out
}

// handsOn tells whether a method hands a method value of its receiver on.
func handsOn(m *ast.FuncDecl, methods map[string]*ast.FuncDecl) bool {
	self, found := m.Recv.List[0].Names[0].Name, false
	ast.Inspect(m.Body, func(n ast.Node) bool {
		call, ok := n.(*ast.CallExpr)
		if !ok {
			return true
		}
		for _, a := range call.Args {
			if s, ok := a.(*ast.SelectorExpr); ok && methods[s.Sel.Name] != nil {
				of, ok := s.X.(*ast.Ident)
				found = found || ok && of.Name == self
			}
		}
		return true
	})
	return found
}

func TestNumbersArePutByAMethodValue(t *testing.T) {
	f, err := parser.ParseFile(token.NewFileSet(), "pipe.go", nil, 0)
	if err != nil {
		t.Fatal(err)
	}
	methods := methodsOf(f, "Writer")
	for _, name := range []string{"Put", "Signed"} {
		if m := methods[name]; m == nil || !handsOn(m, methods) {
			t.Errorf("Ways: %s hands no method value on", name)
		}
	}
}
