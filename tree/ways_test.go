package tree

import (
	"go/ast"
	"go/parser"
	"go/token"
	"reflect"
	"slices"
	"testing"

	"sackbut/pipe"
)

func TestAWalkerHasFunctionsAsFields(t *testing.T) {
	w := reflect.TypeFor[walker]()
	for i := range w.NumField() {
		if w.Field(i).Type.Kind() != reflect.Func {
			t.Errorf("Ways: a walker's field %s is no function", w.Field(i).Name)
		}
	}
	if w.NumField() == 0 {
		t.Error("Ways: a walker has no fields")
	}
}

// A walker's functions are those that it is given: what it asks, and tells.
func TestAWalkerAsksItsFunctions(t *testing.T) {
	var asked, told []int
	w := walker{
		isTwo: func(size int) bool { asked = append(asked, size); return size > 64 },
		leaf:  func(path string, size int) bool { told = append(told, size+len(path)); return path != "01" },
	}
	if w.walk("", 256) {
		t.Error("Ways: a walker goes on where it is told to end")
	}
	if !slices.Equal(asked, []int{256, 128, 64, 64}) || !slices.Equal(told, []int{66, 66}) {
		t.Errorf("Ways: a walker asks of %v, tells %v", asked, told)
	}
}

// valuesOf is the names of a package's walkers' functions, each with the
// variable whose method it is, and in which function that is.
func valuesOf(t *testing.T) map[string][]string {
	t.Helper()
	f, err := parser.ParseFile(token.NewFileSet(), "tree.go", nil, 0)
	if err != nil {
		t.Fatal(err)
	}
	values := map[string][]string{}
	for _, d := range f.Decls {
		x, ok := d.(*ast.FuncDecl)
		if !ok {
			continue
		}
		ast.Inspect(x.Body, func(n ast.Node) bool {
			if c, ok := n.(*ast.CompositeLit); ok && isWalker(c) {
				for _, e := range c.Elts {
					values[x.Name.Name] = append(values[x.Name.Name], nameOf(e))
				}
			}
			return true
		})
	}
	return values
}

func isWalker(c *ast.CompositeLit) bool {
	x, ok := c.Type.(*ast.Ident)
	return ok && x.Name == "walker"
}

// nameOf is a method value's variable and method; of others the name.
func nameOf(e ast.Expr) string {
	switch x := e.(type) {
	case *ast.SelectorExpr:
		return nameOf(x.X) + "." + x.Sel.Name
	case *ast.Ident:
		return x.Name
	}
	return "?"
}

func TestAWalkersFunctionsAreMethodValues(t *testing.T) {
	values := valuesOf(t)
	for name, want := range map[string][]string{
		"Leaves": {"r.isTwo", "r.leaf"},
		"Text":   {"f.isTwo", "f.leaf"},
		"Take":   {"t.isTwo", "t.leaf"},
		"Paths":  {"r.isTwo", "yield"},
	} {
		if !slices.Equal(values[name], want) {
			t.Errorf("Ways: %s's walker has the functions %v, want %v", name, values[name], want)
		}
	}
}

// The method values are of what reads, fits or takes: they keep how far it is.
func TestMethodValuesKeepTheirThing(t *testing.T) {
	r, f := reading{rest: "10"}, fitting{rest: []int{16, 32}}
	k := taking{reader: pipe.Open([]byte{0x80})}
	for _, w := range []walker{{r.isTwo, r.leaf}, {f.isTwo, f.leaf}, {k.isTwo, k.leaf}} {
		w.isTwo(32)
		w.leaf("", 16)
	}
	if r.rest != "0" || len(r.leaves) != 1 || len(f.rest) != 1 || k.reader.Left() != 7 || len(k.leaves) != 1 {
		t.Errorf("Ways: what reads, fits or takes is at %v, %v, %v", r, f, k)
	}
}
