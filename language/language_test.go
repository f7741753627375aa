// Package language tests that the program's code keeps to its language: what it imports, and what stands in its files.
package language

import (
	"bytes"
	"go/ast"
	"go/format"
	"go/parser"
	"go/token"
	"os"
	"path/filepath"
	"slices"
	"strconv"
	"strings"
	"testing"
)

// layers: each package of the program, with those of the program that it may call.
var layers = map[string]string{
	"api":     "",
	"octet":   "api",
	"crc":     "api",
	"mac":     "api crc octet",
	"bpdu":    "api mac octet",
	"wire":    "api mac",
	"pool":    "api",
	"ring":    "api",
	"vector":  "api",
	"role":    "api vector",
	"tree":    "api bpdu role vector",
	"vlan":    "api",
	"fdb":     "api mac",
	"relay":   "api bpdu fdb mac tree vlan",
	"stream":  "api",
	"meter":   "api",
	"gate":    "api wire",
	"change":  "api gate wire",
	"police":  "api gate meter stream",
	"credit":  "api",
	"choose":  "api wire",
	"egress":  "api change choose credit pool ring wire",
	"command": "api mac",
	"bridge":  "api bpdu command egress fdb mac police pool relay role tree vector vlan wire meter stream",
	"net":     "api bridge wire",
	"script":  "api bridge command egress mac",
	"report":  "api bridge command script",
	"status":  "api bridge egress mac",
	"capture": "api bridge crc mac octet",
}

const library = "bytes cmp container/heap errors iter maps math math/bits slices sort strconv strings sync sync/atomic unicode unicode/utf8"

// syncNames: what of package sync is the language's.
const syncNames = "Mutex RWMutex WaitGroup Once"

const longestFunction = 60

type source struct {
	layer, path string
	text        []byte
	set         *token.FileSet
	file        *ast.File
}

func has(words, word string) bool { return slices.Contains(strings.Fields(words), word) }

// sources: the program's files, without their tests.
func sources(t *testing.T) []source {
	var out []source
	for layer := range layers {
		paths, err := filepath.Glob(filepath.Join("..", layer, "*.go"))
		if err != nil || len(paths) == 0 {
			t.Errorf("package %s has no file: %v", layer, err)
		}
		for _, path := range paths {
			if strings.HasSuffix(path, "_test.go") {
				continue
			}
			text, err := os.ReadFile(path)
			if err != nil {
				t.Fatal(err)
			}
			set := token.NewFileSet()
			file, err := parser.ParseFile(set, path, text, parser.ParseComments)
			if err != nil {
				t.Fatal(err)
			}
			out = append(out, source{layer, path, text, set, file})
		}
	}
	return out
}

func TestImports(t *testing.T) {
	for _, s := range sources(t) {
		for _, spec := range s.file.Imports {
			path, _ := strconv.Unquote(spec.Path.Value)
			own, ours := strings.CutPrefix(path, "bargate/")
			if ours && !has(layers[s.layer], own) {
				t.Errorf("%s imports %s, which isn't below it on the map", s.path, path)
			}
			if !ours && !has(library, path) {
				t.Errorf("%s imports %s", s.path, path)
			}
		}
	}
}

func TestNamesOfTheLibrary(t *testing.T) {
	for _, s := range sources(t) {
		ast.Inspect(s.file, func(n ast.Node) bool {
			x, ok := n.(*ast.SelectorExpr)
			if !ok {
				return true
			}
			from, ok := x.X.(*ast.Ident)
			if !ok || from.Obj != nil { // a variable of that name
				return true
			}
			if from.Name == "iter" && strings.HasPrefix(x.Sel.Name, "Pull") || from.Name == "sync" && !has(syncNames, x.Sel.Name) {
				t.Errorf("%s uses %s.%s", s.path, from.Name, x.Sel.Name)
			}
			return true
		})
	}
}

func TestNothingBesideGo(t *testing.T) {
	for layer := range layers {
		entries, err := os.ReadDir(filepath.Join("..", layer))
		if err != nil {
			t.Fatal(err)
		}
		for _, e := range entries {
			if !e.IsDir() && !strings.HasSuffix(e.Name(), ".go") {
				t.Errorf("package %s holds %s", layer, e.Name())
			}
		}
	}
}

func TestNoDirectives(t *testing.T) {
	for _, s := range sources(t) {
		for _, group := range s.file.Comments {
			for _, c := range group.List {
				if strings.HasPrefix(c.Text, "//go:") || strings.HasPrefix(c.Text, "//export") || strings.HasPrefix(c.Text, "// +build") {
					t.Errorf("%s has the line %s", s.path, c.Text)
				}
			}
		}
	}
}

func TestLayout(t *testing.T) {
	for _, s := range sources(t) {
		if got, err := format.Source(s.text); err != nil || !bytes.Equal(got, s.text) {
			t.Errorf("%s isn't laid out as gofmt does: %v", s.path, err)
		}
	}
}

func TestFunctions(t *testing.T) {
	for _, s := range sources(t) {
		for _, d := range s.file.Decls {
			f, ok := d.(*ast.FuncDecl)
			if !ok {
				continue
			}
			if f.Recv == nil && f.Name.Name == "init" {
				t.Errorf("%s has a func init", s.path)
			}
			if lines := s.set.Position(f.End()).Line - s.set.Position(f.Pos()).Line + 1; lines > longestFunction {
				t.Errorf("%s: %s has %d lines", s.path, f.Name.Name, lines)
			}
		}
	}
}

func TestNothingPrints(t *testing.T) {
	for _, s := range sources(t) {
		ast.Inspect(s.file, func(n ast.Node) bool {
			if c, ok := n.(*ast.CallExpr); ok {
				if f, ok := c.Fun.(*ast.Ident); ok && f.Obj == nil && has("print println", f.Name) {
					t.Errorf("%s prints", s.path)
				}
			}
			return true
		})
	}
}

// TestPackageVariables: a variable of a package has its value where it is declared: a table, or an error of errors.New.
func TestPackageVariables(t *testing.T) {
	for _, s := range sources(t) {
		for _, d := range s.file.Decls {
			g, ok := d.(*ast.GenDecl)
			if !ok || g.Tok != token.VAR {
				continue
			}
			for _, spec := range g.Specs {
				v := spec.(*ast.ValueSpec)
				if len(v.Values) != len(v.Names) {
					t.Errorf("%s: %s has no value of its own", s.path, v.Names[0].Name)
				}
				for _, value := range v.Values {
					checkValue(t, s, value)
				}
			}
		}
	}
}

func checkValue(t *testing.T, s source, value ast.Expr) {
	ast.Inspect(value, func(n ast.Node) bool {
		at := s.set.Position(value.Pos())
		switch x := n.(type) {
		case *ast.CallExpr:
			f, ok := x.Fun.(*ast.SelectorExpr)
			if !ok || f.Sel.Name != "New" {
				t.Errorf("%v: a variable of the package is made by a call", at)
				return false
			}
			if from, ok := f.X.(*ast.Ident); !ok || from.Name != "errors" {
				t.Errorf("%v: a variable of the package is made by a call", at)
			}
		case *ast.MapType, *ast.FuncLit, *ast.FuncType:
			t.Errorf("%v: a map or function stands at package level", at)
		case *ast.UnaryExpr:
			if x.Op == token.AND {
				t.Errorf("%v: a pointer stands at package level", at)
			}
		}
		return true
	})
}
