package match_test

import (
	"go/ast"
	"go/parser"
	"go/token"
	"path/filepath"
	"slices"
	"strings"
	"testing"
)

func parsed(t *testing.T) []*ast.File {
	t.Helper()
	paths, err := filepath.Glob("*.go")
	if err != nil {
		t.Fatal(err)
	}
	var files []*ast.File
	for _, path := range paths {
		if strings.HasSuffix(path, "_test.go") {
			continue
		}
		file, err := parser.ParseFile(token.NewFileSet(), path, nil, 0)
		if err != nil {
			t.Fatal(err)
		}
		files = append(files, file)
	}
	return files
}

// functions gives the functions by their names; of methods only those of Matcher.
func functions(t *testing.T) map[string]*ast.FuncDecl {
	t.Helper()
	all := map[string]*ast.FuncDecl{}
	for _, file := range parsed(t) {
		for _, declared := range file.Decls {
			f, ok := declared.(*ast.FuncDecl)
			if !ok {
				continue
			}
			if f.Recv == nil {
				all[f.Name.Name] = f
			} else if _, ok := f.Recv.List[0].Type.(*ast.StarExpr); ok {
				all["Matcher."+f.Name.Name] = f
			}
		}
	}
	return all
}

// functionFields gives the names of the fields of Matcher that are functions of a string.
func functionFields(t *testing.T) []string {
	t.Helper()
	var names []string
	for _, file := range parsed(t) {
		ast.Inspect(file, func(node ast.Node) bool {
			declared, ok := node.(*ast.TypeSpec)
			if !ok || declared.Name.Name != "Matcher" {
				return true
			}
			for _, field := range declared.Type.(*ast.StructType).Fields.List {
				if _, ok := field.Type.(*ast.FuncType); ok {
					for _, id := range field.Names {
						names = append(names, id.Name)
					}
				}
			}
			return false
		})
	}
	return names
}

// Ways, layer 8: what a matcher accepts is kept in a function field, which New fills and Value calls.
func TestWhatIsAcceptedIsAFunctionField(t *testing.T) {
	names := functionFields(t)
	if len(names) != 1 {
		t.Fatalf("the function fields of a matcher are %v", names)
	}
	filled, called := 0, 0
	ast.Inspect(functions(t)["New"], func(node ast.Node) bool {
		if field, ok := node.(*ast.KeyValueExpr); ok {
			if id, ok := field.Key.(*ast.Ident); ok && id.Name == names[0] {
				filled++
			}
		}
		return true
	})
	ast.Inspect(functions(t)["Matcher.Value"], func(node ast.Node) bool {
		if call, ok := node.(*ast.CallExpr); ok {
			if field, ok := call.Fun.(*ast.SelectorExpr); ok && field.Sel.Name == names[0] {
				called++
			}
		}
		return true
	})
	if filled != 1 || called != 1 {
		t.Errorf("the field is filled by New at %d places, and called by Value at %d", filled, called)
	}
}

// Ways, layer 8: it is a closure, over the value or over its tree.
func TestWhatIsAcceptedIsAClosure(t *testing.T) {
	var over []string
	ast.Inspect(functions(t)["accepting"], func(node ast.Node) bool {
		literal, ok := node.(*ast.FuncLit)
		if !ok {
			return true
		}
		ast.Inspect(literal.Body, func(node ast.Node) bool {
			if id, ok := node.(*ast.Ident); ok && (id.Name == "value" || id.Name == "tree") {
				over = append(over, id.Name)
			}
			return true
		})
		return false
	})
	slices.Sort(over)
	if !slices.Equal(over, []string{"tree", "value"}) {
		t.Errorf("the closures are over %v", over)
	}
}

// The program's rules: the layer calls layers 4, 6 and 7 alone, and has no variable at package level.
func TestImportsAndVariables(t *testing.T) {
	allowed := []string{"almanac/api", "almanac/deriv", "almanac/labels", "almanac/regex", "strings"}
	for _, file := range parsed(t) {
		for _, imported := range file.Imports {
			if path := strings.Trim(imported.Path.Value, `"`); !slices.Contains(allowed, path) {
				t.Errorf("%s is imported", path)
			}
		}
		for _, declared := range file.Decls {
			if group, ok := declared.(*ast.GenDecl); ok && group.Tok == token.VAR {
				t.Error("a variable is declared at package level")
			}
		}
	}
}
