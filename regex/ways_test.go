package regex_test

import (
	"go/ast"
	"go/parser"
	"go/token"
	"path/filepath"
	"slices"
	"strings"
	"testing"
)

func parsed(t *testing.T) []*ast.File {
	t.Helper()
	paths, err := filepath.Glob("*.go")
	if err != nil {
		t.Fatal(err)
	}
	var files []*ast.File
	for _, path := range paths {
		if strings.HasSuffix(path, "_test.go") {
			continue
		}
		file, err := parser.ParseFile(token.NewFileSet(), path, nil, 0)
		if err != nil {
			t.Fatal(err)
		}
		files = append(files, file)
	}
	return files
}

func function(t *testing.T, name string) *ast.FuncDecl {
	t.Helper()
	for _, file := range parsed(t) {
		for _, declared := range file.Decls {
			if f, ok := declared.(*ast.FuncDecl); ok && f.Name.Name == name {
				return f
			}
		}
	}
	t.Fatalf("there is no function %s", name)
	return nil
}

// errorsIn are the names of api's errors that stand below this node.
func errorsIn(node ast.Node) []string {
	var names []string
	ast.Inspect(node, func(node ast.Node) bool {
		if s, ok := node.(*ast.SelectorExpr); ok && strings.HasPrefix(s.Sel.Name, "Err") && s.Sel.Name != "Errno" {
			names = append(names, s.Sel.Name)
		}
		return true
	})
	return names
}

// callsOf are the calls of a function without a package that stand below this node.
func callsOf(node ast.Node, name string) []*ast.CallExpr {
	var calls []*ast.CallExpr
	ast.Inspect(node, func(node ast.Node) bool {
		if call, ok := node.(*ast.CallExpr); ok {
			if id, ok := call.Fun.(*ast.Ident); ok && id.Name == name {
				calls = append(calls, call)
			}
		}
		return true
	})
	return calls
}

// Ways, layer 6: an error is reported by panic, each of the seven, and in no other way.
func TestErrorsAreReportedByPanic(t *testing.T) {
	var named, panicked []string
	for _, file := range parsed(t) {
		named = append(named, errorsIn(file)...)
		for _, call := range callsOf(file, "panic") {
			panicked = append(panicked, errorsIn(call)...)
		}
	}
	slices.Sort(named)
	slices.Sort(panicked)
	if !slices.Equal(named, panicked) {
		t.Errorf("errors are named at %v, and reported by panic at %v", named, panicked)
	}
	all := []string{"ErrClass", "ErrClose", "ErrEscape", "ErrNest", "ErrOpen", "ErrPattern", "ErrRepeat"}
	if kinds := slices.Compact(panicked); !slices.Equal(kinds, all) {
		t.Errorf("reported by panic are %v", kinds)
	}
}

// Ways, layer 6: Parse recovers an error, in a function literal that it defers.
func TestParseRecovers(t *testing.T) {
	recovered := 0
	ast.Inspect(function(t, "Parse"), func(node ast.Node) bool {
		if deferred, ok := node.(*ast.DeferStmt); ok {
			literal, ok := deferred.Call.Fun.(*ast.FuncLit)
			if !ok {
				t.Fatal("what is deferred is no function literal")
			}
			recovered += len(callsOf(literal, "recover"))
		}
		return true
	})
	if recovered != 1 {
		t.Errorf("Parse recovers at %d places", recovered)
	}
}

// Ways, layer 6: the kinds are numbered by iota.
func TestKindsAreNumberedByIota(t *testing.T) {
	for _, file := range parsed(t) {
		for _, declared := range file.Decls {
			group, ok := declared.(*ast.GenDecl)
			if !ok || group.Tok != token.CONST {
				continue
			}
			first := group.Specs[0].(*ast.ValueSpec)
			if first.Names[0].Name != "Empty" {
				continue
			}
			kind, isName := first.Type.(*ast.Ident)
			if !isName || kind.Name != "Kind" || len(first.Values) != 1 {
				t.Fatal("the first kind is no Kind with a value")
			}
			if value, ok := first.Values[0].(*ast.Ident); !ok || value.Name != "iota" {
				t.Error("the value of the first kind is not iota")
			}
			for _, spec := range group.Specs[1:] {
				if other := spec.(*ast.ValueSpec); len(other.Values) > 0 {
					t.Errorf("%s has a value of its own", other.Names[0].Name)
				}
			}
			if len(group.Specs) != 7 {
				t.Errorf("there are %d kinds", len(group.Specs))
			}
			return
		}
	}
	t.Error("there are no kinds")
}

// Ways, layer 6: an escaped byte falls through to an ordinary one.
func TestAnEscapedByteFallsThrough(t *testing.T) {
	found := 0
	ast.Inspect(function(t, "letter"), func(node ast.Node) bool {
		choice, ok := node.(*ast.SwitchStmt)
		if !ok {
			return true
		}
		for i, statement := range choice.Body.List {
			clause := statement.(*ast.CaseClause)
			if len(clause.Body) == 0 {
				continue
			}
			last, ok := clause.Body[len(clause.Body)-1].(*ast.BranchStmt)
			if !ok || last.Tok != token.FALLTHROUGH {
				continue
			}
			found++
			if !names(clause.List, `'\\'`) {
				t.Error("what falls through is no backslash")
			}
			if next := choice.Body.List[i+1].(*ast.CaseClause); next.List != nil {
				t.Error("it does not fall through to the other bytes")
			}
		}
		return true
	})
	if found != 1 {
		t.Errorf("%d clauses fall through", found)
	}
}

// names tells if this literal stands in one of these expressions.
func names(expressions []ast.Expr, literal string) bool {
	found := false
	for _, expression := range expressions {
		ast.Inspect(expression, func(node ast.Node) bool {
			value, ok := node.(*ast.BasicLit)
			found = found || ok && value.Value == literal
			return true
		})
	}
	return found
}

// The program's rules: the layer calls no other one, and has no variable at package level.
func TestImportsAndVariables(t *testing.T) {
	for _, file := range parsed(t) {
		for _, imported := range file.Imports {
			if path := strings.Trim(imported.Path.Value, `"`); path != "almanac/api" && path != "strings" {
				t.Errorf("%s is imported", path)
			}
		}
		for _, declared := range file.Decls {
			if group, ok := declared.(*ast.GenDecl); ok && group.Tok == token.VAR {
				t.Error("a variable is declared at package level")
			}
		}
	}
}
