package enc_test

import (
	"go/ast"
	"go/parser"
	"go/token"
	"strconv"
	"strings"
	"testing"
)

func parsed(t *testing.T) *ast.File {
	t.Helper()
	file, err := parser.ParseFile(token.NewFileSet(), "enc.go", nil, 0)
	if err != nil {
		t.Fatal(err)
	}
	return file
}

// variables are what is declared by var at package level.
func variables(file *ast.File) []*ast.ValueSpec {
	var all []*ast.ValueSpec
	for _, declared := range file.Decls {
		if group, ok := declared.(*ast.GenDecl); ok && group.Tok == token.VAR {
			for _, spec := range group.Specs {
				all = append(all, spec.(*ast.ValueSpec))
			}
		}
	}
	return all
}

// uses are the places in functions where the name stands, each with the node around it.
func uses(file *ast.File, name string) []ast.Node {
	var around, found []ast.Node
	ast.Inspect(file, func(node ast.Node) bool {
		if node == nil {
			around = around[:len(around)-1]
			return true
		}
		if id, ok := node.(*ast.Ident); ok && id.Name == name {
			if _, declared := around[len(around)-1].(*ast.ValueSpec); !declared {
				found = append(found, around[len(around)-1])
			}
		}
		around = append(around, node)
		return true
	})
	return found
}

// Ways, layer 2: a constant table of sixteen words at package level, written out, and nothing else beside it.
func TestTheTableOfRemainders(t *testing.T) {
	file := parsed(t)
	all := variables(file)
	if len(all) != 1 || len(all[0].Names) != 1 || len(all[0].Values) != 1 {
		t.Fatalf("%d variables are declared at package level", len(all))
	}
	table, ok := all[0].Values[0].(*ast.CompositeLit)
	if !ok {
		t.Fatal("the table is not written out")
	}
	kind, ok := table.Type.(*ast.ArrayType)
	if !ok || kind.Len == nil || kind.Elt.(*ast.Ident).Name != "uint32" || len(table.Elts) != 16 {
		t.Fatalf("the table of %d is not an array of sixteen words", len(table.Elts))
	}
	for half, element := range table.Elts {
		word, err := strconv.ParseUint(element.(*ast.BasicLit).Value, 0, 32)
		if err != nil {
			t.Fatal(err)
		}
		if want := remainderOf(uint32(half)); uint32(word) != want {
			t.Errorf("the remainder of %d is %#x, not %#x", half, word, want)
		}
	}
	checkOnlyRead(t, file, all[0].Names[0].Name)
}

// remainderOf takes four steps of the division, bit by bit.
func remainderOf(half uint32) uint32 {
	for range 4 {
		lost := half & 1
		half = half>>1 ^ lost*0x82f63b78
	}
	return half
}

func checkOnlyRead(t *testing.T, file *ast.File, name string) {
	t.Helper()
	found := uses(file, name)
	if len(found) == 0 {
		t.Errorf("%s is not used", name)
	}
	for _, node := range found {
		if _, ok := node.(*ast.IndexExpr); !ok {
			t.Errorf("%s is used otherwise than by its index: %T", name, node)
		}
	}
	ast.Inspect(file, func(node ast.Node) bool {
		if assigned, ok := node.(*ast.AssignStmt); ok {
			for _, left := range assigned.Lhs {
				index, ok := left.(*ast.IndexExpr)
				if !ok {
					continue
				}
				if id, ok := index.X.(*ast.Ident); ok && id.Name == name {
					t.Errorf("%s is assigned to", name)
				}
			}
		}
		return true
	})
}

// Ways, layer 2: the checksum itself reads the table, and takes its parts as a variadic function does.
func TestTheSumIsVariadic(t *testing.T) {
	file := parsed(t)
	name := variables(file)[0].Names[0].Name
	for _, declared := range file.Decls {
		function, ok := declared.(*ast.FuncDecl)
		if !ok || function.Name.Name != "Crc" {
			continue
		}
		parameters := function.Type.Params.List
		if _, variadic := parameters[len(parameters)-1].Type.(*ast.Ellipsis); !variadic {
			t.Error("Crc is not variadic")
		}
		reads := false
		ast.Inspect(function.Body, func(node ast.Node) bool {
			if id, ok := node.(*ast.Ident); ok && id.Name == name {
				reads = true
			}
			return true
		})
		if !reads {
			t.Errorf("Crc does not read %s", name)
		}
		return
	}
	t.Error("there is no function Crc")
}

// The program's rules: no library beside the given package is needed here, so none sums in the table's place.
func TestImports(t *testing.T) {
	for _, imported := range parsed(t).Imports {
		if path := strings.Trim(imported.Path.Value, `"`); path != "almanac/api" {
			t.Errorf("%s is imported", path)
		}
	}
}
