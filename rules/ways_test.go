package rules

import (
	"go/ast"
	"go/parser"
	"go/token"
	"testing"
)

// ways are the document's, as far as a file's form shows them without its types.
func ways(n ast.Node) string {
	switch x := n.(type) {
	case *ast.FuncLit:
		return "closure"
	case *ast.ArrayType:
		if x.Len != nil {
			return "array"
		}
	case *ast.StarExpr:
		return "pointer"
	}
	return ""
}

// asked are the ways that the chapters of the layers that are built ask for, of those that are seen here.
func asked() map[string][]string {
	return map[string][]string{
		"crc": {"array", "pointer", "closure"},
	}
}

func TestWaysOfTheChapters(t *testing.T) {
	for layer, want := range asked() {
		got := map[string]bool{}
		for _, path := range layerFiles(t, layer) {
			f, err := parser.ParseFile(token.NewFileSet(), path, nil, 0)
			if err != nil {
				t.Fatal(err)
			}
			ast.Inspect(f, func(n ast.Node) bool {
				got[ways(n)] = true
				return true
			})
		}
		for _, way := range want {
			if !got[way] {
				t.Errorf("%s has no %s", layer, way)
			}
		}
	}
}
