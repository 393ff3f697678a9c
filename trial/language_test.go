package trial_test

import (
	"go/parser"
	"go/token"
	"path/filepath"
	"slices"
	"strconv"
	"strings"
	"testing"
)

// library is what the program may import of Go's library, by rule 1 of LANGUAGE.md. Tests may import all of it.
var library = []string{
	"bytes", "cmp", "container/heap", "errors", "iter", "maps", "math", "math/big", "math/bits", "slices", "sort",
	"strconv", "strings", "sync", "sync/atomic", "unicode", "unicode/utf8",
}

// layers are the packages of the map. All others of the program are found by what these, or their tests, import.
var layers = []string{
	"api", "disk", "codec", "seal", "wal", "store", "pool", "node", "span", "file", "dir",
	"walk", "check", "fs", "handle", "dump", "shell", "salvage", "patch", "find", "serve",
}

func imports(t *testing.T, file string) []string {
	t.Helper()
	tree, err := parser.ParseFile(token.NewFileSet(), file, nil, parser.ImportsOnly)
	if err != nil {
		t.Fatal(err)
	}
	var list []string
	for _, spec := range tree.Imports {
		path, err := strconv.Unquote(spec.Path.Value)
		if err != nil {
			t.Fatal(err)
		}
		list = append(list, path)
	}
	return list
}

// Every file of the program but its tests imports the program's own packages, and of the library what may be.
func TestRule1Imports(t *testing.T) {
	packages := slices.Clone(layers)
	for i := 0; i < len(packages); i++ {
		files, err := filepath.Glob(filepath.Join("..", packages[i], "*.go"))
		if err != nil || len(files) == 0 {
			t.Fatalf("package %s has no files, %v", packages[i], err)
		}
		for _, file := range files {
			for _, path := range imports(t, file) {
				if own, is := strings.CutPrefix(path, "vellum/"); is {
					if !slices.Contains(packages, own) {
						packages = append(packages, own)
					}
				} else if !strings.HasSuffix(file, "_test.go") && !slices.Contains(library, path) {
					t.Errorf("%s imports %s", file, path)
				}
			}
		}
	}
	for _, name := range []string{"halt", "site", "trial"} {
		if !slices.Contains(packages, name) {
			t.Errorf("package %s was not looked at", name)
		}
	}
}
