// Package rules tests what holds for the text of all layers alike: of what each is made, and how it is laid out.
package rules

import (
	"bytes"
	"go/ast"
	"go/format"
	"go/parser"
	"go/token"
	"os"
	"path/filepath"
	"slices"
	"strconv"
	"strings"
	"testing"
)

const module = "ouroboros/"

// library is what may be imported: so no layer has a clock, a source of chance, a file or a network to ask (R7).
var library = []string{"bytes", "cmp", "container/heap", "errors", "iter", "maps", "math", "math/bits", "slices", "sort", "strconv", "strings", "sync", "sync/atomic", "unicode", "unicode/utf8"}

// calls is the document's map: which layers each one calls; api is for all.
var calls = map[string]string{
	"api":    "",
	"octet":  "",
	"crc":    "octet",
	"flash":  "octet",
	"record": "octet crc",
	"page":   "flash record",
	"value":  "",
	"entry":  "octet value",
	"arena":  "entry",
	"delta":  "value arena",
	"digest": "octet crc entry arena",
	"config": "record",
	"book":   "octet flash record page entry arena config",
	"store":  "flash arena config book",
	"frame":  "octet crc entry digest",
	"queue":  "",
	"buffer": "arena",
	"push":   "frame buffer",
	"probe":  "digest frame",
	"sweep":  "arena frame",
	"node":   "delta book store frame buffer push probe sweep",
	"ring":   "flash config queue node",
	"fair":   "arena config node ring",
	"script": "value delta node ring fair",
}

// sources are the Go files of a layer that are no tests.
func sources(t *testing.T, layer string) []string {
	files, err := filepath.Glob(filepath.Join("..", layer, "*.go"))
	if err != nil {
		t.Fatal(err)
	}
	files = slices.DeleteFunc(files, func(f string) bool { return strings.HasSuffix(f, "_test.go") })
	if len(files) == 0 {
		t.Fatalf("layer %s has no files", layer)
	}
	return files
}

func mayImport(layer, path string) bool {
	own, isOwn := strings.CutPrefix(path, module)
	if !isOwn {
		return slices.Contains(library, path)
	}
	return own == "api" && layer != "api" || slices.Contains(strings.Fields(calls[layer]), own)
}

func TestImports(t *testing.T) {
	for layer := range calls {
		for _, name := range sources(t, layer) {
			file, err := parser.ParseFile(token.NewFileSet(), name, nil, parser.ImportsOnly)
			if err != nil {
				t.Fatal(err)
			}
			for _, i := range file.Imports {
				if path, err := strconv.Unquote(i.Path.Value); err != nil || !mayImport(layer, path) {
					t.Errorf("%s imports %s", name, i.Path.Value)
				}
			}
		}
	}
}

func TestLayout(t *testing.T) {
	for layer := range calls {
		for _, name := range sources(t, layer) {
			text, err := os.ReadFile(name)
			if err != nil {
				t.Fatal(err)
			}
			laid, err := format.Source(text)
			if err != nil || !bytes.Equal(text, laid) {
				t.Errorf("%s is not laid out as gofmt does: %v", name, err)
			}
			if bytes.Contains(text, []byte("//go:")) {
				t.Errorf("%s has a //go: line", name)
			}
		}
	}
}

func TestFunctionsAreShort(t *testing.T) {
	for layer := range calls {
		for _, name := range sources(t, layer) {
			places := token.NewFileSet()
			file, err := parser.ParseFile(places, name, nil, 0)
			if err != nil {
				t.Fatal(err)
			}
			for _, d := range file.Decls {
				f, ok := d.(*ast.FuncDecl)
				if ok && places.Position(f.End()).Line-places.Position(f.Pos()).Line >= 60 {
					t.Errorf("%s: %s has more than 60 lines", name, f.Name.Name)
				}
			}
		}
	}
}
