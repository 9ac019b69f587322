package toll

import (
	"go/ast"
	"go/parser"
	"go/token"
	"testing"
)

func TestSumsOfFourBits(t *testing.T) {
	for bits, got := range sums {
		want := uint32(bits)
		for range 4 {
			want = bitOn(want, 0)
		}
		if got != want {
			t.Errorf("Ways: the sum of four bits %04b: %08X, want %08X", bits, got, want)
		}
	}
	if len(sums) != 16 {
		t.Errorf("Ways: %d sums of four bits, want 16", len(sums))
	}
}

// declared is the package's source, by the names at package level.
func declared(t *testing.T) map[string]ast.Node {
	t.Helper()
	f, err := parser.ParseFile(token.NewFileSet(), "toll.go", nil, 0)
	if err != nil {
		t.Fatal(err)
	}
	out := map[string]ast.Node{}
	for _, d := range f.Decls {
		switch x := d.(type) {
		case *ast.FuncDecl:
			if x.Recv == nil {
				out[x.Name.Name] = x
			} else {
				out["Tally."+x.Name.Name] = x
			}
		case *ast.GenDecl:
			for _, s := range x.Specs {
				if v, ok := s.(*ast.ValueSpec); ok && x.Tok == token.VAR {
					out[v.Names[0].Name] = v
				}
			}
		}
	}
	return out
}

// names tells whether a name stands in a node.
func names(n ast.Node, name string) bool {
	found := false
	ast.Inspect(n, func(n ast.Node) bool {
		x, ok := n.(*ast.Ident)
		found = found || ok && x.Name == name
		return true
	})
	return found
}

func TestSumsAreAConstantTable(t *testing.T) {
	all := declared(t)
	table, ok := all["sums"].(*ast.ValueSpec)
	if !ok || len(table.Values) != 1 {
		t.Fatal("Ways: no table of sums stands at package level")
	}
	list, ok := table.Values[0].(*ast.CompositeLit)
	if !ok || len(list.Elts) != 16 {
		t.Fatal("Ways: the table's sixteen sums are not written out")
	}
	for _, e := range list.Elts {
		if _, ok := e.(*ast.BasicLit); !ok {
			t.Error("Ways: a sum of the table is no constant")
		}
	}
	for _, step := range [][2]string{{"Sum", "goOn"}, {"Tally.Add", "goOn"}, {"goOn", "fourOn"}, {"fourOn", "sums"}} {
		if f := all[step[0]]; f == nil || !names(f, step[1]) {
			t.Errorf("Ways: %s doesn't lean on %s", step[0], step[1])
		}
	}
}
