package deriv_test

import (
	"go/ast"
	"go/parser"
	"go/token"
	"path/filepath"
	"slices"
	"strings"
	"testing"
)

func parsed(t *testing.T) []*ast.File {
	t.Helper()
	paths, err := filepath.Glob("*.go")
	if err != nil {
		t.Fatal(err)
	}
	var files []*ast.File
	for _, path := range paths {
		if strings.HasSuffix(path, "_test.go") {
			continue
		}
		file, err := parser.ParseFile(token.NewFileSet(), path, nil, 0)
		if err != nil {
			t.Fatal(err)
		}
		files = append(files, file)
	}
	return files
}

// fieldsOf gives the fields of a struct type, with the text of their types as far as these tests ask.
func fieldsOf(t *testing.T, name string) map[string]ast.Expr {
	t.Helper()
	fields := map[string]ast.Expr{}
	for _, file := range parsed(t) {
		ast.Inspect(file, func(node ast.Node) bool {
			declared, ok := node.(*ast.TypeSpec)
			if !ok || declared.Name.Name != name {
				return true
			}
			for _, field := range declared.Type.(*ast.StructType).Fields.List {
				for _, id := range field.Names {
					fields[id.Name] = field.Type
				}
			}
			return false
		})
	}
	if len(fields) == 0 {
		t.Fatalf("there is no struct type %s", name)
	}
	return fields
}

// keyedByRests tells if this is the type of a map with what remains to be matched as its keys.
func keyedByRests(kind ast.Expr) bool {
	m, ok := kind.(*ast.MapType)
	if !ok {
		return false
	}
	key, ok := m.Key.(*ast.Ident)
	return ok && key.Name == "rest"
}

// Ways, layer 7: what remains to be matched are structs that are keys of a map.
func TestRestsAreKeysOfMaps(t *testing.T) {
	if len(fieldsOf(t, "rest")) < 2 {
		t.Error("what remains is no struct of several parts")
	}
	fields := fieldsOf(t, "matcher")
	for _, name := range []string{"numbers", "left"} {
		if !keyedByRests(fields[name]) {
			t.Errorf("the field %s is no map of what remains", name)
		}
	}
}

// Ways, layer 7: they are iterated over by a range over a map, for each byte and at the end.
func TestRestsAreRangedOver(t *testing.T) {
	fields := fieldsOf(t, "matcher")
	var in []string
	for _, file := range parsed(t) {
		for _, declared := range file.Decls {
			f, ok := declared.(*ast.FuncDecl)
			if !ok {
				continue
			}
			ast.Inspect(f, func(node ast.Node) bool {
				loop, ok := node.(*ast.RangeStmt)
				if !ok {
					return true
				}
				if field, ok := loop.X.(*ast.SelectorExpr); ok && keyedByRests(fields[field.Sel.Name]) {
					in = append(in, f.Name.Name)
				}
				return true
			})
		}
	}
	slices.Sort(in)
	if !slices.Equal(in, []string{"Match", "take"}) {
		t.Errorf("ranges over maps stand in %v", in)
	}
}

// Ways, layer 7: Plus falls through to Star, Star to Quest.
func TestPlusFallsThrough(t *testing.T) {
	var falls []string
	for _, file := range parsed(t) {
		ast.Inspect(file, func(node ast.Node) bool {
			choice, ok := node.(*ast.SwitchStmt)
			if !ok {
				return true
			}
			for i, statement := range choice.Body.List {
				clause := statement.(*ast.CaseClause)
				if len(clause.Body) == 0 {
					continue
				}
				last, ok := clause.Body[len(clause.Body)-1].(*ast.BranchStmt)
				if ok && last.Tok == token.FALLTHROUGH {
					falls = append(falls, kindOf(t, clause)+" "+kindOf(t, choice.Body.List[i+1].(*ast.CaseClause)))
				}
			}
			return true
		})
	}
	if !slices.Equal(falls, []string{"Plus Star", "Star Quest"}) {
		t.Errorf("these fall through: %v", falls)
	}
}

// kindOf gives the one kind of node that a clause names.
func kindOf(t *testing.T, clause *ast.CaseClause) string {
	t.Helper()
	if len(clause.List) != 1 {
		t.Fatalf("a clause names %d kinds", len(clause.List))
	}
	return clause.List[0].(*ast.SelectorExpr).Sel.Name
}

// The program's rules: the layer calls layer 6 alone, and has no variable at package level.
func TestImportsAndVariables(t *testing.T) {
	for _, file := range parsed(t) {
		for _, imported := range file.Imports {
			if path := strings.Trim(imported.Path.Value, `"`); path != "almanac/regex" && path != "slices" {
				t.Errorf("%s is imported", path)
			}
		}
		for _, declared := range file.Decls {
			if group, ok := declared.(*ast.GenDecl); ok && group.Tok == token.VAR {
				t.Error("a variable is declared at package level")
			}
		}
	}
}
