package octet_test

import (
	"go/ast"
	"go/parser"
	"go/token"
	"testing"
)

// functions are the functions of octet.go, by name.
func functions(t *testing.T) map[string]*ast.FuncDecl {
	file, err := parser.ParseFile(token.NewFileSet(), "octet.go", nil, 0)
	if err != nil {
		t.Fatal(err)
	}
	out := map[string]*ast.FuncDecl{}
	for _, d := range file.Decls {
		if f, ok := d.(*ast.FuncDecl); ok {
			out[f.Name.Name] = f
		}
	}
	return out
}

// has tells whether one of the nodes below n is such a one.
func has(n ast.Node, such func(ast.Node) bool) bool {
	found := false
	ast.Inspect(n, func(m ast.Node) bool {
		found = found || m != nil && such(m)
		return !found
	})
	return found
}

func isClosure(n ast.Node) bool {
	_, ok := n.(*ast.FuncLit)
	return ok
}

// isRangeOverCall finds a range over what one of the builtin functions len and min tells, which is an integer.
func isRangeOverCall(n ast.Node) bool {
	r, ok := n.(*ast.RangeStmt)
	if !ok {
		return false
	}
	call, ok := r.X.(*ast.CallExpr)
	if !ok {
		return false
	}
	name, ok := call.Fun.(*ast.Ident)
	return ok && (name.Name == "len" || name.Name == "min")
}

// isSeq2 finds the type of a function to range over of two values.
func isSeq2(n ast.Node) bool {
	s, ok := n.(*ast.SelectorExpr)
	return ok && s.Sel.Name == "Seq2"
}

func TestBytesByRangeOverInteger(t *testing.T) {
	all := functions(t)
	for _, name := range []string{"Not", "Count", "pairwise", "digits"} {
		if all[name] == nil || !has(all[name], isRangeOverCall) {
			t.Errorf("%s: no range over an integer", name)
		}
	}
	for name, f := range all {
		if has(f, func(n ast.Node) bool { _, ok := n.(*ast.ForStmt); return ok }) {
			t.Errorf("%s: a for that is no range", name)
		}
	}
}

func TestTwoBytesByClosure(t *testing.T) {
	all := functions(t)
	for _, name := range []string{"And", "Or", "Xor"} {
		if all[name] == nil || !has(all[name], isClosure) {
			t.Errorf("%s: no closure", name)
		}
	}
}

func TestNumbersByFunctionToRangeOver(t *testing.T) {
	all := functions(t)
	ranged := func(n ast.Node) bool {
		r, ok := n.(*ast.RangeStmt)
		if !ok || r.Key == nil || r.Value == nil {
			return false
		}
		call, ok := r.X.(*ast.CallExpr)
		if !ok {
			return false
		}
		name, ok := call.Fun.(*ast.Ident)
		return ok && all[name.Name] != nil && all[name.Name].Type.Results != nil && has(all[name.Name].Type.Results, isSeq2)
	}
	if all["Get"] == nil || !has(all["Get"], ranged) {
		t.Error("Get: no range over a function of two values")
	}
}
