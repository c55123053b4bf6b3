package labels_test

import (
	"go/ast"
	"go/parser"
	"go/printer"
	"go/token"
	"slices"
	"strings"
	"testing"
)

// source is the layer's code with its positions.
type source struct {
	fset  *token.FileSet
	files []*ast.File
}

func parsed(t *testing.T) source {
	t.Helper()
	s := source{fset: token.NewFileSet()}
	for _, path := range []string{"labels.go", "text.go"} {
		file, err := parser.ParseFile(s.fset, path, nil, 0)
		if err != nil {
			t.Fatal(err)
		}
		s.files = append(s.files, file)
	}
	return s
}

// written gives the code of these nodes, each on a line of its own.
func written[N ast.Node](t *testing.T, s source, nodes ...N) string {
	t.Helper()
	var all strings.Builder
	for _, node := range nodes {
		if err := printer.Fprint(&all, s.fset, node); err != nil {
			t.Fatal(err)
		}
		all.WriteString("\n")
	}
	return all.String()
}

// falls finds the clauses of a function that fall through, each with the clause behind it.
func falls(t *testing.T, s source, function string) [][2]*ast.CaseClause {
	t.Helper()
	var found [][2]*ast.CaseClause
	inspect := func(node ast.Node) bool {
		choice, ok := node.(*ast.SwitchStmt)
		if !ok {
			return true
		}
		var clauses []*ast.CaseClause
		for _, clause := range choice.Body.List {
			clauses = append(clauses, clause.(*ast.CaseClause))
		}
		for i, clause := range clauses[:len(clauses)-1] {
			if len(clause.Body) == 0 {
				continue
			}
			if last, ok := clause.Body[len(clause.Body)-1].(*ast.BranchStmt); ok && last.Tok == token.FALLTHROUGH {
				found = append(found, [2]*ast.CaseClause{clause, clauses[i+1]})
			}
		}
		return true
	}
	for _, file := range s.files {
		for _, declared := range file.Decls {
			if f, ok := declared.(*ast.FuncDecl); ok && f.Name.Name == function {
				ast.Inspect(f, inspect)
			}
		}
	}
	return found
}

// Ways, layer 4: a digit that begins a name falls through to the rejection.
func TestADigitFallsThrough(t *testing.T) {
	s := parsed(t)
	found := falls(t, s, "isName")
	if len(found) != 1 {
		t.Fatalf("%d clauses fall through", len(found))
	}
	if on := written(t, s, found[0][0].List...); !strings.Contains(on, "'0'") || !strings.Contains(on, "'9'") {
		t.Errorf("what falls through is %s", on)
	}
	if to := written(t, s, found[0][1].Body...); to != "return false\n" || found[0][1].List != nil {
		t.Errorf("it falls through to %s", to)
	}
}

// Ways, layer 4: a quotation mark falls through to being written after its backslash.
func TestAQuotationMarkFallsThrough(t *testing.T) {
	s := parsed(t)
	found := falls(t, s, "Quote")
	if len(found) != 1 {
		t.Fatalf("%d clauses fall through", len(found))
	}
	if on := written(t, s, found[0][0].List...); !strings.Contains(on, `'"'`) {
		t.Errorf("what falls through is %s", on)
	}
	if body := written(t, s, found[0][0].Body...); !strings.HasSuffix(body, "'\\\\')\nfallthrough\n") {
		t.Errorf("ahead of the mark this is written: %s", body)
	}
	if to := written(t, s, found[0][1].Body...); to != "quoted = append(quoted, c)\n" {
		t.Errorf("it falls through to %s", to)
	}
}

// The program's rules: the layer calls layer 2 alone, and has no variable at package level.
func TestImportsAndVariables(t *testing.T) {
	allowed := []string{"almanac/api", "almanac/enc", "cmp", "slices", "strings"}
	for _, file := range parsed(t).files {
		for _, imported := range file.Imports {
			if path := strings.Trim(imported.Path.Value, `"`); !slices.Contains(allowed, path) {
				t.Errorf("%s is imported", path)
			}
		}
		for _, declared := range file.Decls {
			if group, ok := declared.(*ast.GenDecl); ok && group.Tok == token.VAR {
				t.Error("a variable is declared at package level")
			}
		}
	}
}
