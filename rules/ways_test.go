package rules

import (
	"cmp"
	"go/ast"
	"go/build"
	"go/importer"
	"go/parser"
	"go/token"
	"go/types"
	"os/exec"
	"path/filepath"
	"slices"
	"strings"
	"testing"
)

// ways are the document's, as far as a file's form and its types show them; what is called was seen ahead of its name.
func ways(n ast.Node, info *types.Info, called map[ast.Expr]bool) string {
	switch x := n.(type) {
	case *ast.FuncDecl:
		return cmp.Or(callsItself(x, info), shadows(x, info))
	case *ast.StructType:
		if slices.ContainsFunc(x.Fields.List, func(f *ast.Field) bool { return f.Names == nil }) {
			return "embedding"
		}
	case *ast.FuncType:
		if x.TypeParams != nil {
			return "generic-function"
		}
	case *ast.InterfaceType:
		if x.Methods.NumFields() > 0 {
			return "interface"
		}
	case *ast.SelectorExpr:
		return selected(info.Selections[x], called[x])
	case *ast.FuncLit:
		return "closure"
	case *ast.ArrayType:
		if x.Len != nil {
			return "array"
		}
	case *ast.StarExpr:
		return "pointer"
	case *ast.UnaryExpr:
		// A pointer is had by an address, where its type is not spelt.
		if x.Op == token.AND {
			return "address"
		}
	case *ast.MapType:
		return "map"
	case *ast.TypeAssertExpr:
		// Without a type it is the head of a type switch.
		if x.Type != nil {
			return "assertion"
		}
	case *ast.CallExpr:
		called[ast.Unparen(x.Fun)] = true
		if f, ok := x.Fun.(*ast.Ident); ok && info.Types[f].IsBuiltin() {
			return f.Name
		}
	case *ast.Ellipsis:
		// Without a type it is the length of an array.
		if x.Elt != nil {
			return "variadic"
		}
	case *ast.BranchStmt:
		return x.Tok.String()
	case *ast.LabeledStmt:
		return "label"
	case *ast.BinaryExpr:
		return compared(x, info)
	case *ast.ImportSpec:
		return "help of " + x.Path.Value
	case *ast.RangeStmt:
		return rangeOver(info.TypeOf(x.X))
	}
	return ""
}

// selected is the way in which a method is taken, or called.
func selected(s *types.Selection, isCalled bool) string {
	switch {
	case s == nil || s.Kind() != types.MethodVal:
		return ""
	case !isCalled:
		return "method-value"
	case types.IsInterface(s.Recv()):
		return "interface-call"
	}
	return ""
}

func callsItself(x *ast.FuncDecl, info *types.Info) string {
	way := ""
	ast.Inspect(x.Body, func(n ast.Node) bool {
		if name, ok := n.(*ast.Ident); ok && info.Uses[name] == info.Defs[x.Name] {
			way = "itself"
		}
		return true
	})
	return way
}

// shadows says whether a method stands ahead of one that its object would else have of what it embeds.
func shadows(x *ast.FuncDecl, info *types.Info) string {
	if x.Recv == nil {
		return ""
	}
	own := info.TypeOf(x.Recv.List[0].Type)
	if p, ok := own.(*types.Pointer); ok {
		own = p.Elem()
	}
	fields, isStruct := own.Underlying().(*types.Struct)
	for i := 0; isStruct && i < fields.NumFields(); i++ {
		f := fields.Field(i)
		if o, _, _ := types.LookupFieldOrMethod(f.Type(), true, f.Pkg(), x.Name.Name); f.Embedded() && o != nil {
			return "shadow"
		}
	}
	return ""
}

func compared(x *ast.BinaryExpr, info *types.Info) string {
	_, isStruct := info.TypeOf(x.X).Underlying().(*types.Struct)
	if isStruct && (x.Op == token.EQL || x.Op == token.NEQ) {
		return "struct-compared"
	}
	return ""
}

func rangeOver(t types.Type) string {
	switch x := t.Underlying().(type) {
	case *types.Signature:
		return "range-function"
	case *types.Basic:
		if x.Info()&types.IsInteger != 0 {
			return "range-integer"
		}
	}
	return ""
}

// asked are the ways that the chapters of the layers that are built ask for, of those that are seen here.
func asked() map[string][]string {
	return map[string][]string{
		"word":  {"range-integer", "range-function", `help of "slices"`},
		"crc":   {"array", "pointer", "closure"},
		"bits":  {"range-function", `help of "math/bits"`},
		"span":  {"closure", "address"},
		"timer": {`help of "container/heap"`, "assertion", "pointer", "map", "delete"},
		"ptr":   {"variadic", "fallthrough", "struct-compared"},
		"arena": {"range-function", "label"},
		"build": {"embedding", "method-value", "itself"},
		"read":  {"interface", "interface-call", "embedding", "label", "method-value"},
		"tree":  {"itself", "range-function"},
		"valid": {"embedding", "shadow"},
		"mani":  {"range-function", `help of "slices"`, "generic-function", "closure"},
	}
}

// findLibrary tells the importer where Go's library lies, which a test built with -trimpath does not know.
func findLibrary(t *testing.T) {
	if build.Default.GOROOT != "" {
		return
	}
	out, err := exec.Command("go", "env", "GOROOT").Output()
	if err != nil {
		t.Fatal(err)
	}
	build.Default.GOROOT = strings.TrimSpace(string(out))
}

// parsed are a layer's files and their types.
func parsed(t *testing.T, layer string) ([]*ast.File, *types.Info) {
	fset := token.NewFileSet()
	var files []*ast.File
	for _, path := range layerFiles(t, layer) {
		// The importer finds the module by whole paths alone.
		path, err := filepath.Abs(path)
		if err != nil {
			t.Fatal(err)
		}
		f, err := parser.ParseFile(fset, path, nil, 0)
		if err != nil {
			t.Fatal(err)
		}
		files = append(files, f)
	}
	info := &types.Info{
		Types: map[ast.Expr]types.TypeAndValue{}, Selections: map[*ast.SelectorExpr]*types.Selection{},
		Defs: map[*ast.Ident]types.Object{}, Uses: map[*ast.Ident]types.Object{},
	}
	config := types.Config{Importer: importer.ForCompiler(fset, "source", nil)}
	if _, err := config.Check("sculler/"+layer, fset, files, info); err != nil {
		t.Fatal(err)
	}
	return files, info
}

func TestWaysOfTheChapters(t *testing.T) {
	findLibrary(t)
	for layer, want := range asked() {
		got, called := map[string]bool{}, map[ast.Expr]bool{}
		files, info := parsed(t, layer)
		for _, f := range files {
			ast.Inspect(f, func(n ast.Node) bool {
				got[ways(n, info, called)] = true
				return true
			})
		}
		for _, way := range want {
			if !got[way] {
				t.Errorf("%s has no %s", layer, way)
			}
		}
	}
}
