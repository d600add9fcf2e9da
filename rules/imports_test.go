package rules

import (
	"go/parser"
	"go/token"
	"path/filepath"
	"slices"
	"strconv"
	"strings"
	"testing"
)

// calls is the document's map: on which of the others each layer stands.
func calls() map[string]string {
	return map[string]string{
		"api":   "",
		"word":  "",
		"crc":   "word",
		"bits":  "word",
		"span":  "api bits",
		"timer": "",
		"ptr":   "api word",
		"arena": "api word",
		"build": "api word ptr arena",
		"read":  "api ptr arena",
		"tree":  "api word arena build read",
		"valid": "api span arena build read tree",
		"mani":  "api word crc arena",
		"pack":  "api word crc",
		"token": "api word crc bits mani",
		"keep":  "api bits token",
		"part":  "api word bits arena read mani",
		"send":  "api bits timer valid mani",
		"recv":  "api bits valid mani keep part send",
		"net":   "api",
		"sim":   "api pack keep send recv net",
		"bound": "api word pack send sim",
		"play":  "api build sim bound",
	}
}

// library is what the program may import of Go's library.
const library = "bytes cmp container/heap errors iter maps math math/bits slices sort strconv strings sync sync/atomic unicode unicode/utf8"

// layerFiles are a layer's own files, tests left out.
func layerFiles(t *testing.T, layer string) []string {
	files, err := filepath.Glob(filepath.Join("..", layer, "*.go"))
	if err != nil {
		t.Fatal(err)
	}
	return slices.DeleteFunc(files, func(path string) bool { return strings.HasSuffix(path, "_test.go") })
}

func imports(t *testing.T, path string) []string {
	f, err := parser.ParseFile(token.NewFileSet(), path, nil, parser.ImportsOnly)
	if err != nil {
		t.Fatal(err)
	}
	var l []string
	for _, i := range f.Imports {
		name, err := strconv.Unquote(i.Path.Value)
		if err != nil {
			t.Fatal(err)
		}
		l = append(l, name)
	}
	return l
}

func TestImportsAreThoseOfTheMap(t *testing.T) {
	below := calls()
	for layer, row := range below {
		files := layerFiles(t, layer)
		if len(files) == 0 {
			t.Errorf("there is no package %s", layer)
		}
		for _, path := range files {
			for _, name := range imports(t, path) {
				own, isOwn := strings.CutPrefix(name, "sculler/")
				_, isLayer := below[own]
				if !isOwn && !slices.Contains(strings.Fields(library), name) {
					t.Errorf("%s imports %s, which the program may not", path, name)
				}
				if isOwn && isLayer && !slices.Contains(strings.Fields(row), own) {
					t.Errorf("%s imports %s, on which %s does not stand", path, name, layer)
				}
			}
		}
	}
}
