package symbols_test

import (
	"go/ast"
	"go/parser"
	"go/token"
	"path/filepath"
	"slices"
	"strings"
	"testing"
)

// The program's rules: the layer calls layers 2 and 4 alone, and has no variable at package level.
func TestImportsAndVariables(t *testing.T) {
	allowed := []string{"almanac/api", "almanac/enc", "almanac/labels", "slices", "strings"}
	paths, err := filepath.Glob("*.go")
	if err != nil {
		t.Fatal(err)
	}
	for _, path := range paths {
		if strings.HasSuffix(path, "_test.go") {
			continue
		}
		file, err := parser.ParseFile(token.NewFileSet(), path, nil, 0)
		if err != nil {
			t.Fatal(err)
		}
		for _, imported := range file.Imports {
			if path := strings.Trim(imported.Path.Value, `"`); !slices.Contains(allowed, path) {
				t.Errorf("%s is imported", path)
			}
		}
		for _, declared := range file.Decls {
			if group, ok := declared.(*ast.GenDecl); ok && group.Tok == token.VAR {
				t.Error("a variable is declared at package level")
			}
		}
	}
}
