package rules

import (
	"go/ast"
	"go/parser"
	"go/token"
	"slices"
	"testing"
)

// functions are the functions of a layer, by name; of methods of one name the last one.
func functions(t *testing.T, layer string) map[string]*ast.FuncDecl {
	out := map[string]*ast.FuncDecl{}
	for _, name := range sources(t, layer) {
		file, err := parser.ParseFile(token.NewFileSet(), name, nil, 0)
		if err != nil {
			t.Fatal(err)
		}
		for _, d := range file.Decls {
			if f, ok := d.(*ast.FuncDecl); ok {
				out[f.Name.Name] = f
			}
		}
	}
	return out
}

// variables are the types of a layer's package-level variables, by name; nil, where none is written.
func variables(t *testing.T, layer string) map[string]ast.Expr {
	out := map[string]ast.Expr{}
	for _, name := range sources(t, layer) {
		file, err := parser.ParseFile(token.NewFileSet(), name, nil, 0)
		if err != nil {
			t.Fatal(err)
		}
		for _, d := range file.Decls {
			g, ok := d.(*ast.GenDecl)
			if !ok || g.Tok != token.VAR {
				continue
			}
			for _, s := range g.Specs {
				v := s.(*ast.ValueSpec)
				for _, n := range v.Names {
					out[n.Name] = v.Type
				}
			}
		}
	}
	return out
}

// has tells whether f is there, and one of the nodes below it is such a one.
func has(f *ast.FuncDecl, such func(ast.Node) bool) bool {
	if f == nil {
		return false
	}
	found := false
	ast.Inspect(f, func(m ast.Node) bool {
		found = found || m != nil && such(m)
		return !found
	})
	return found
}

func isClosure(n ast.Node) bool {
	_, ok := n.(*ast.FuncLit)
	return ok
}

func isFor(n ast.Node) bool {
	_, ok := n.(*ast.ForStmt)
	return ok
}

func isIdent(n ast.Node, name string) bool {
	i, ok := n.(*ast.Ident)
	return ok && i.Name == name
}

// isNamed tells whether n is pack.name.
func isNamed(n ast.Node, pack, name string) bool {
	s, ok := n.(*ast.SelectorExpr)
	return ok && s.Sel.Name == name && isIdent(s.X, pack)
}

// rangedCall is the name of the function whose answer n ranges over, or empty.
func rangedCall(n ast.Node) string {
	r, ok := n.(*ast.RangeStmt)
	if !ok {
		return ""
	}
	call, ok := r.X.(*ast.CallExpr)
	if !ok {
		return ""
	}
	name, ok := call.Fun.(*ast.Ident)
	if !ok {
		return ""
	}
	return name.Name
}

// isRangeOverLength finds a range over what one of the builtin functions len and min tells, which is an integer.
func isRangeOverLength(n ast.Node) bool {
	name := rangedCall(n)
	return name == "len" || name == "min"
}

// isRangeOverFunction finds a range over a function that one of those in all answers: of iter's type Seq, or Seq2.
func isRangeOverFunction(n ast.Node, all map[string]*ast.FuncDecl, kind string) bool {
	r, ok := n.(*ast.RangeStmt)
	if !ok || r.Key == nil || (r.Value != nil) != (kind == "Seq2") {
		return false
	}
	f := all[rangedCall(n)]
	return f != nil && has(f, func(n ast.Node) bool { return isNamed(n, "iter", kind) })
}

func TestWaysOfOctet(t *testing.T) {
	all := functions(t, "octet")
	for _, name := range []string{"Not", "Count", "pairwise", "digits"} {
		if !has(all[name], isRangeOverLength) {
			t.Errorf("%s: no range over an integer", name)
		}
	}
	for name, f := range all {
		if has(f, isFor) {
			t.Errorf("%s: a for that is no range", name)
		}
	}
	for _, name := range []string{"And", "Or", "Xor"} {
		if !has(all[name], isClosure) {
			t.Errorf("%s: no closure", name)
		}
	}
	if !has(all["Get"], func(n ast.Node) bool { return isRangeOverFunction(n, all, "Seq2") }) {
		t.Error("Get: no range over a function of two values")
	}
}

func TestWaysOfCrc(t *testing.T) {
	all, kept := functions(t, "crc"), variables(t, "crc")
	if table, ok := kept["afterByte"].(*ast.ArrayType); !ok || table.Len == nil {
		t.Error("the table is no array")
	}
	if kept["made"] == nil || !isNamed(kept["made"], "sync", "Once") {
		t.Error("the table is not made once")
	}
	if len(kept) != 2 {
		t.Errorf("more is kept than the table: %d variables", len(kept))
	}
	for _, name := range []string{"byBits", "byTable", "makeTable"} {
		if !has(all[name], isRangeOverLength) {
			t.Errorf("%s: no range over an integer", name)
		}
	}
	for name, f := range all {
		if has(f, isFor) {
			t.Errorf("%s: a for that is no range", name)
		}
		makes := has(f, func(n ast.Node) bool {
			call, ok := n.(*ast.CallExpr)
			return ok && isNamed(call.Fun, "made", "Do")
		})
		if makes != (name == "byTable") {
			t.Errorf("%s: makes the table: %v", name, makes)
		}
		reads := has(f, func(n ast.Node) bool {
			i, ok := n.(*ast.IndexExpr)
			return ok && isIdent(i.X, "afterByte")
		})
		if reads && name != "byTable" && name != "makeTable" {
			t.Errorf("%s: reads the table, that may not be made yet", name)
		}
	}
	if !has(all["Add"], func(n ast.Node) bool { return isCall(n, "byTable") }) {
		t.Error("Add: never reads the table")
	}
	for _, name := range []string{"Sum", "Seal", "Open"} {
		for reached := range reach(all, name) {
			for kept := range kept {
				if has(all[reached], func(n ast.Node) bool { return isIdent(n, kept) }) {
					t.Errorf("%s: comes to %s, which names %s", name, reached, kept)
				}
			}
		}
	}
}

// reach is the function of that name, and all functions of its layer that it names, or that those name.
func reach(all map[string]*ast.FuncDecl, name string) map[string]bool {
	out, todo := map[string]bool{}, []string{name}
	for len(todo) > 0 {
		next := todo[0]
		todo = todo[1:]
		if all[next] == nil || out[next] {
			continue
		}
		out[next] = true
		ast.Inspect(all[next], func(n ast.Node) bool {
			if i, ok := n.(*ast.Ident); ok {
				todo = append(todo, i.Name)
			}
			return true
		})
	}
	return out
}

// interfaces are the names of the methods of a layer's interface types, by the types' names.
func interfaces(t *testing.T, layer string) map[string][]string {
	out := map[string][]string{}
	for _, name := range sources(t, layer) {
		file, err := parser.ParseFile(token.NewFileSet(), name, nil, 0)
		if err != nil {
			t.Fatal(err)
		}
		ast.Inspect(file, func(n ast.Node) bool {
			s, ok := n.(*ast.TypeSpec)
			if !ok {
				return true
			}
			if i, ok := s.Type.(*ast.InterfaceType); ok {
				for _, m := range i.Methods.List {
					for _, id := range m.Names {
						out[s.Name.Name] = append(out[s.Name.Name], id.Name)
					}
				}
			}
			return true
		})
	}
	return out
}

// callsMethod tells whether f calls that method of its parameter of that type.
func callsMethod(f *ast.FuncDecl, kind, method string) bool {
	if f == nil {
		return false
	}
	for _, p := range f.Type.Params.List {
		if !isIdent(p.Type, kind) {
			continue
		}
		for _, name := range p.Names {
			if has(f, func(n ast.Node) bool {
				call, ok := n.(*ast.CallExpr)
				return ok && isNamed(call.Fun, name.Name, method)
			}) {
				return true
			}
		}
	}
	return false
}

func TestWaysOfFlash(t *testing.T) {
	all, methods := functions(t, "flash"), interfaces(t, "flash")["step"]
	if len(methods) == 0 {
		t.Error("steps are no interface")
	}
	for _, m := range methods {
		if !callsMethod(all["take"], "step", m) {
			t.Errorf("take: method %s of a step is not called", m)
		}
	}
	for _, name := range []string{"Erase", "Program"} {
		if !has(all[name], func(n ast.Node) bool { return isIdent(n, "take") }) {
			t.Errorf("%s: is no step", name)
		}
	}
	if !has(all["Free"], isClosure) {
		t.Error("Free: no closure")
	}
}

// isCut finds what is cut with three places, or with fewer.
func isCut(n ast.Node, three bool) bool {
	s, ok := n.(*ast.SliceExpr)
	return ok && s.Slice3 == three
}

func TestWaysOfRecord(t *testing.T) {
	all := functions(t, "record")
	if !has(all["halves"], func(n ast.Node) bool { return isCut(n, true) }) {
		t.Error("halves: not cut with three places")
	}
	for name, f := range all {
		if has(f, func(n ast.Node) bool { return isCut(n, false) }) {
			t.Errorf("%s: cuts with less than three places", name)
		}
	}
	if !has(all["Read"], func(n ast.Node) bool { return isIdent(n, "halves") }) {
		t.Error("Read: cuts no halves")
	}
	if !has(all["Clear"], func(n ast.Node) bool { return isRangeOverFunction(n, all, "Seq") }) {
		t.Error("Clear: no range over a function")
	}
}

// handsOn tells whether f hands a closure, and a method of one of its variables that is not called there, to that function.
func handsOn(f *ast.FuncDecl, name string) (closure, method bool) {
	has(f, func(n ast.Node) bool {
		call, ok := n.(*ast.CallExpr)
		if !ok || !isIdent(call.Fun, name) {
			return false
		}
		for _, a := range call.Args {
			_, isMethod := a.(*ast.SelectorExpr)
			closure, method = closure || isClosure(a), method || isMethod
		}
		return false
	})
	return closure, method
}

func TestWaysOfPage(t *testing.T) {
	all := functions(t, "page")
	for _, name := range []string{"Records", "mark"} {
		if !has(all[name], func(n ast.Node) bool { return isRangeOverFunction(n, all, "Seq2") }) {
			t.Errorf("%s: no range over a function of two values", name)
		}
	}
	for _, name := range []string{"Bad", "Next"} {
		if closure, method := handsOn(all[name], "mark"); !closure || !method {
			t.Errorf("%s: counts by a closure: %v, by a method value: %v", name, closure, method)
		}
	}
}

// methodOf is that method of a layer's type; nil, if there is none.
func methodOf(t *testing.T, layer, kind, method string) *ast.FuncDecl {
	for _, name := range sources(t, layer) {
		file, err := parser.ParseFile(token.NewFileSet(), name, nil, 0)
		if err != nil {
			t.Fatal(err)
		}
		for _, d := range file.Decls {
			if f, ok := d.(*ast.FuncDecl); ok && f.Recv != nil && f.Name.Name == method && isReceiver(f.Recv.List[0].Type, kind) {
				return f
			}
		}
	}
	return nil
}

// isReceiver tells whether n is that type, or a pointer to it.
func isReceiver(n ast.Node, kind string) bool {
	if star, ok := n.(*ast.StarExpr); ok {
		n = star.X
	}
	return isIdent(n, kind)
}

// isVariadic tells whether the last parameter of f is any number of them.
func isVariadic(f *ast.FuncDecl) bool {
	if f == nil || len(f.Type.Params.List) == 0 {
		return false
	}
	_, ok := f.Type.Params.List[len(f.Type.Params.List)-1].Type.(*ast.Ellipsis)
	return ok
}

func TestWaysOfValue(t *testing.T) {
	all, methods := functions(t, "value"), interfaces(t, "value")["kind"]
	callers := map[string]string{"inRange": "kindOfValue", "only": "kindOfValue", "join": "Join", "least": "Least", "sum": "Sum"}
	if len(methods) != len(callers) {
		t.Errorf("the methods of kinds: %v", methods)
	}
	for _, m := range methods {
		if !has(all[callers[m]], func(n ast.Node) bool {
			call, ok := n.(*ast.CallExpr)
			return ok && isNamed(call.Fun, "k", m)
		}) {
			t.Errorf("method %s of a kind is not called", m)
		}
		for _, kind := range []string{"register", "counter", "flags"} {
			if methodOf(t, "value", kind, m) == nil {
				t.Errorf("%s has no method %s", kind, m)
			}
		}
	}
	if !isVariadic(all["isBehind"]) || !has(methodOf(t, "value", "register", "join"), func(n ast.Node) bool { return isIdent(n, "isBehind") }) {
		t.Error("parts of registers are not told to a variadic function")
	}
	if closure, _ := handsOn(methodOf(t, "value", "counter", "join"), "row"); !closure {
		t.Error("counters are not joined place by place by a closure")
	}
}

// structs are the fields of a layer's struct types, by the types' names.
func structs(t *testing.T, layer string) map[string][]*ast.Field {
	out := map[string][]*ast.Field{}
	for _, name := range sources(t, layer) {
		file, err := parser.ParseFile(token.NewFileSet(), name, nil, 0)
		if err != nil {
			t.Fatal(err)
		}
		ast.Inspect(file, func(n ast.Node) bool {
			if s, ok := n.(*ast.TypeSpec); ok {
				if body, ok := s.Type.(*ast.StructType); ok {
					out[s.Name.Name] = body.Fields.List
				}
			}
			return true
		})
	}
	return out
}

// embeds tells whether one of the fields is of that type, and has no name of its own.
func embeds(fields []*ast.Field, kind string) bool {
	for _, f := range fields {
		if len(f.Names) == 0 && isIdent(f.Type, kind) {
			return true
		}
	}
	return false
}

// methodsIn are the methods of a variable that are values of a map which is written out below f, by name.
func methodsIn(f *ast.FuncDecl, of string) []string {
	var out []string
	has(f, func(n ast.Node) bool {
		lit, ok := n.(*ast.CompositeLit)
		if !ok {
			return false
		}
		if _, ok := lit.Type.(*ast.MapType); !ok {
			return false
		}
		for _, e := range lit.Elts {
			if s, ok := e.(*ast.KeyValueExpr).Value.(*ast.SelectorExpr); ok && isIdent(s.X, of) {
				out = append(out, s.Sel.Name)
			}
		}
		return false
	})
	slices.Sort(out)
	return out
}

// isCall finds a call of the function of that name.
func isCall(n ast.Node, name string) bool {
	call, ok := n.(*ast.CallExpr)
	return ok && isIdent(call.Fun, name)
}

// recovers tells whether f defers a closure that recovers.
func recovers(f *ast.FuncDecl) bool {
	return has(f, func(n ast.Node) bool {
		d, ok := n.(*ast.DeferStmt)
		if !ok || !isClosure(d.Call.Fun) {
			return false
		}
		found := false
		ast.Inspect(d.Call.Fun, func(n ast.Node) bool {
			found = found || isCall(n, "recover")
			return true
		})
		return found
	})
}

func TestWaysOfEntry(t *testing.T) {
	all, kinds := functions(t, "entry"), []string{"counter", "flags", "register"}
	if got := methodsIn(all["kinds"], "w"); !slices.Equal(got, kinds) {
		t.Errorf("the kinds that are written by method values in a map: %v", got)
	}
	if !has(all["Put"], func(n ast.Node) bool {
		i, ok := n.(*ast.IndexExpr)
		return ok && isMethodCall(i.X, "w", "kinds")
	}) {
		t.Error("Put: takes no kind out of the map")
	}
	if !recovers(all["Get"]) || !has(all["Get"], func(n ast.Node) bool { return isCall(n, "read") }) {
		t.Error("Get: recovers from nothing in a deferred function")
	}
	if !has(all["insist"], func(n ast.Node) bool { return isCall(n, "panic") }) || !has(all["read"], func(n ast.Node) bool { return isCall(n, "insist") }) {
		t.Error("what is read does not give up by a panic")
	}
	if !embeds(structs(t, "entry")["writer"], "text") {
		t.Error("what is put together embeds no text")
	}
	for _, promoted := range []string{"add", "number", "fill"} {
		if methodOf(t, "entry", "text", promoted) == nil || methodOf(t, "entry", "writer", promoted) != nil {
			t.Errorf("method %s is not the text's alone", promoted)
		}
		if !has(all["Put"], func(n ast.Node) bool { return isMethodCall(n, "w", promoted) }) {
			t.Errorf("Put: calls no promoted method %s", promoted)
		}
	}
}

// embedsNamed tells whether one of the fields is of the type pack.name, and has no name of its own.
func embedsNamed(fields []*ast.Field, pack, name string) bool {
	return slices.ContainsFunc(fields, func(f *ast.Field) bool { return len(f.Names) == 0 && isNamed(f.Type, pack, name) })
}

// handsLibrary tells whether f hands a closure to that function of the library.
func handsLibrary(f *ast.FuncDecl, pack, name string) bool {
	return has(f, func(n ast.Node) bool {
		call, ok := n.(*ast.CallExpr)
		return ok && isNamed(call.Fun, pack, name) && slices.ContainsFunc(call.Args, func(a ast.Expr) bool { return isClosure(a) })
	})
}

func TestWaysOfArena(t *testing.T) {
	all := functions(t, "arena")
	if !handsLibrary(all["search"], "slices", "BinarySearchFunc") {
		t.Error("search: hands no closure to the library")
	}
	for _, name := range []string{"Find", "join"} {
		if !has(all[name], func(n ast.Node) bool { return isCall(n, "search") }) {
			t.Errorf("%s: the library finds nothing in the Index", name)
		}
	}
	for _, name := range []string{"All", "Chunk", "Below"} {
		if !has(all[name], func(n ast.Node) bool { return isRangeOverFunction(n, all, "Seq2") }) {
			t.Errorf("%s: no range over a function of two values", name)
		}
	}
	if !embedsNamed(structs(t, "arena")["changing"], "api", "Arena") {
		t.Error("an arena that is changed embeds none")
	}
	for _, promoted := range []string{"Cap", "Slots", "Index"} {
		if !has(methodOf(t, "arena", "changing", "join"), func(n ast.Node) bool { return isNamed(n, "c", promoted) }) {
			t.Errorf("join: the field %s is not promoted", promoted)
		}
	}
	for _, name := range []string{"Join", "Merge"} {
		if !has(all[name], func(n ast.Node) bool { return isMethodCall(n, "c", "join") }) {
			t.Errorf("%s: changes no arena that embeds one", name)
		}
	}
}

// handsChecks are how many closures f hands to that function: those that are written there, and those that the functions in all make which it calls there.
func handsChecks(f *ast.FuncDecl, name string, all map[string]*ast.FuncDecl) (closures, others int) {
	has(f, func(n ast.Node) bool {
		if !isCall(n, name) {
			return false
		}
		for _, a := range n.(*ast.CallExpr).Args {
			if isClosure(a) || makesClosure(a, all) {
				closures++
			} else {
				others++
			}
		}
		return false
	})
	return closures, others
}

// makesClosure tells whether n calls a function of all in which a closure stands.
func makesClosure(n ast.Node, all map[string]*ast.FuncDecl) bool {
	call, ok := n.(*ast.CallExpr)
	if !ok {
		return false
	}
	maker, ok := call.Fun.(*ast.Ident)
	return ok && has(all[maker.Name], isClosure)
}

func TestWaysOfDelta(t *testing.T) {
	all := functions(t, "delta")
	if !isVariadic(all["refusal"]) {
		t.Error("refusal: is not variadic")
	}
	for name, least := range map[string]int{"Put": 6, "Delete": 5, "Add": 6, "Set": 3} {
		if closures, others := handsChecks(all[name], "refusal", all); closures < least || others > 0 {
			t.Errorf("%s: checked by %d closures, and by %d others", name, closures, others)
		}
	}
	if all["read"] == nil || all["read"].Type.TypeParams == nil {
		t.Error("read: is not generic")
	}
	for _, name := range []string{"Text", "Sum", "Flags"} {
		if closure, _ := handsOn(all[name], "read"); !closure {
			t.Errorf("%s: is not read by the generic function", name)
		}
	}
}

// arraysOf are the names of what is handed to f in arrays.
func arraysOf(f *ast.FuncDecl) []string {
	var out []string
	if f == nil {
		return out
	}
	for _, p := range f.Type.Params.List {
		if a, ok := p.Type.(*ast.ArrayType); !ok || a.Len == nil {
			continue
		}
		for _, name := range p.Names {
			out = append(out, name.Name)
		}
	}
	return out
}

// isComparison finds where what has that name, all of it, is compared.
func isComparison(n ast.Node, name string) bool {
	b, ok := n.(*ast.BinaryExpr)
	return ok && (b.Op == token.EQL || b.Op == token.NEQ) && (isIdent(b.X, name) || isIdent(b.Y, name))
}

func TestWaysOfDigest(t *testing.T) {
	all := functions(t, "digest")
	compared := slices.ContainsFunc(arraysOf(all["Differ"]), func(name string) bool {
		return has(all["Differ"], func(n ast.Node) bool { return isComparison(n, name) })
	})
	if !compared {
		t.Error("Differ: compares no array")
	}
	for _, name := range []string{"Sums", "In"} {
		if !has(all[name], func(n ast.Node) bool { return isRangeOverFunction(n, all, "Seq2") }) {
			t.Errorf("%s: no range over a function of two values", name)
		}
	}
	if !has(all["In"], isClosure) {
		t.Error("In: no closure")
	}
}

// functionFields are the names of those fields that are functions.
func functionFields(fields []*ast.Field) []string {
	var out []string
	for _, f := range fields {
		if _, ok := f.Type.(*ast.FuncType); !ok {
			continue
		}
		for _, name := range f.Names {
			out = append(out, name.Name)
		}
	}
	return out
}

// isArrayOf tells whether n is the type of an array, and no slice, of things of that type.
func isArrayOf(n ast.Node, kind string) bool {
	a, ok := n.(*ast.ArrayType)
	return ok && a.Len != nil && isIdent(a.Elt, kind)
}

func TestWaysOfConfig(t *testing.T) {
	all := functions(t, "config")
	if !has(all["numbers"], func(n ast.Node) bool {
		lit, ok := n.(*ast.CompositeLit)
		return ok && isArrayOf(lit.Type, "number")
	}) {
		t.Error("numbers: what each number may be stands in no array")
	}
	fields := functionFields(structs(t, "config")["number"])
	if len(fields) == 0 {
		t.Error("no field of a number is a function")
	}
	for _, name := range fields {
		if !has(all["Check"], func(n ast.Node) bool { return isMethodCall(n, "n", name) }) {
			t.Errorf("Check: does not call the field %s", name)
		}
	}
	if !has(all["Check"], func(n ast.Node) bool { return rangedCall(n) == "numbers" }) {
		t.Error("Check: does not go through the array")
	}
}

// startsGoroutine finds a goroutine that tells a variable when it is done, however it ends.
func startsGoroutine(n ast.Node, awaited string) bool {
	g, ok := n.(*ast.GoStmt)
	if !ok || !isClosure(g.Call.Fun) {
		return false
	}
	found := false
	ast.Inspect(g.Call.Fun, func(n ast.Node) bool {
		d, ok := n.(*ast.DeferStmt)
		found = found || ok && isMethodCall(d.Call, awaited, "Done")
		return true
	})
	return found
}

// declares finds a local variable of that name, of the type pack.kind.
func declares(n ast.Node, name, pack, kind string) bool {
	v, ok := n.(*ast.ValueSpec)
	return ok && len(v.Names) == 1 && v.Names[0].Name == name && isNamed(v.Type, pack, kind)
}

func TestWaysOfBook(t *testing.T) {
	all := functions(t, "book")
	for _, name := range []string{"lookThrough", "leastWorn"} {
		if !has(all[name], func(n ast.Node) bool { return isRangeOverFunction(n, all, "Seq") }) {
			t.Errorf("%s: no range over a function", name)
		}
	}
	if !isVariadic(all["leastWorn"]) {
		t.Error("leastWorn: is not variadic")
	}
	for name, least := range map[string]int{"Free": 2, "Worst": 3} {
		if closures, others := handsChecks(all[name], "leastWorn", all); closures < least || others != 1 {
			t.Errorf("%s: finds the least worn page by %d closures, and %d others beside the device", name, closures, others-1)
		}
	}
	look := all["lookThrough"]
	for what, such := range map[string]func(ast.Node) bool{
		"no wait group":                     func(n ast.Node) bool { return declares(n, "looking", "sync", "WaitGroup") },
		"no goroutine":                      func(n ast.Node) bool { return startsGoroutine(n, "looking") },
		"awaits no goroutine":               func(n ast.Node) bool { return isMethodCall(n, "looking", "Wait") },
		"what is spoilt is no atomic":       func(n ast.Node) bool { return declares(n, "spoilt", "atomic", "Int64") },
		"what is spoilt is not added":       func(n ast.Node) bool { return isMethodCall(n, "spoilt", "Add") },
		"what was added is not asked again": func(n ast.Node) bool { return isMethodCall(n, "spoilt", "Load") },
	} {
		if !has(look, such) {
			t.Errorf("lookThrough: %s", what)
		}
	}
	for _, name := range []string{"Find", "Load"} {
		if !has(all[name], func(n ast.Node) bool { return isCall(n, "lookThrough") }) {
			t.Errorf("%s: looks through no pages at once", name)
		}
	}
}

// isMethodCall finds a call of that method of that variable.
func isMethodCall(n ast.Node, of, method string) bool {
	call, ok := n.(*ast.CallExpr)
	return ok && isNamed(call.Fun, of, method)
}

// handsField tells whether f makes a thing of that struct type, one of whose parts is a closure.
func handsField(f *ast.FuncDecl, kind string) bool {
	return has(f, func(n ast.Node) bool {
		lit, ok := n.(*ast.CompositeLit)
		return ok && isIdent(lit.Type, kind) && slices.ContainsFunc(lit.Elts, func(e ast.Expr) bool { return isClosure(e) })
	})
}

// promotes tells whether that method of changing names that field of what is embedded as one of its own.
func promotes(t *testing.T, layer, method, field string) bool {
	return has(methodOf(t, layer, "changing", method), func(n ast.Node) bool { return isNamed(n, "c", field) })
}

func TestWaysOfStore(t *testing.T) {
	all := functions(t, "store")
	if !embedsNamed(structs(t, "store")["changing"], "api", "Store") {
		t.Error("a store that is changed embeds none")
	}
	for method, fields := range map[string][]string{"join": {"Arena"}, "boot": {"Flash", "Arena", "Lost", "Next"}, "scrub": {"Flash", "Book", "Arena", "Lost", "Next"}, "do": {"Flash", "Book"}} {
		for _, promoted := range fields {
			if !promotes(t, "store", method, promoted) {
				t.Errorf("%s: the field %s is not promoted", method, promoted)
			}
		}
	}
	if methodOf(t, "store", "failure", "Error") == nil || !has(methodOf(t, "store", "failure", "Unwrap"), func(n ast.Node) bool { return isNamed(n, "f", "number") }) {
		t.Error("failures wrap no numbers")
	}
	if !has(all["numberOf"], func(n ast.Node) bool { return isMethodCall(n, "errors", "As") }) {
		t.Error("numberOf: numbers are not told by errors.As")
	}
	for _, name := range []string{"Join", "Merge", "Boot", "Scrub"} {
		if !has(all[name], func(n ast.Node) bool { return isCall(n, "numberOf") }) {
			t.Errorf("%s: tells no number that an error wraps", name)
		}
	}
	if fields := functionFields(structs(t, "store")["writing"]); !slices.Equal(fields, []string{"write"}) {
		t.Errorf("what is written stands in the fields %v", fields)
	}
	if !has(methodOf(t, "store", "changing", "do"), func(n ast.Node) bool { return isMethodCall(n, "w", "write") }) {
		t.Error("do: does not call the field")
	}
	for _, method := range []string{"join", "boot", "scrub"} {
		if !handsField(methodOf(t, "store", "changing", method), "writing") {
			t.Errorf("%s: what is written is no field that is a function", method)
		}
	}
}
